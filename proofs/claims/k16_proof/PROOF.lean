import PyProof.Rows.All
import Wide.All
import OpenK.AllK
import Wide.FinOn
import PyProof.EqLayable
import PyProof.P3Eq
import HandS.ForMost
import HandS.IsInst
import HandS.TupAny
import HandS.Wide
import HandS.Codes
import HandS.Text
import HandS.Style
import HandS.SortKw
import HandS.More
import HandS.Star
import HandS.Walk
import HandS.Iter
import KE.DatumOrd
import KE.GoesEnumKw
import PyProof.Rows.CallKwBuiltin
import PyProof.Rows.RegStrFacts
import KE.IntTextLaws
import HandS.DictComp
import KE.KDictKeyed
import KE.KeyNested
import PyProof.Rows.TupTab
import HandS.Deep
import HandS.Zip
import PySem.Challenge.RW_lazywebs_k16_nodes_seen
set_option Elab.async false
set_option linter.all false
set_option maxRecDepth 100000
set_option maxHeartbeats 4000000
/-! Parts, and what a drawing makes of them: plain Lean. -/
namespace Lz
open PySem

/-! ### data without lists stays what it is -/
mutual
def fz : PyData → Bool
  | .none => true
  | .bool _ => true
  | .int _ => true
  | .str _ => true
  | .tuple xs => fzAll xs
  | .list _ => false
  | .dict _ => false
def fzAll : List PyData → Bool
  | [] => true
  | x :: xs => fz x && fzAll xs
end
theorem fzAll_iff : ∀ {ds : List PyData}, fzAll ds = true ↔ ∀ d, d ∈ ds → fz d = true
  | [] => ⟨fun _ _ h => (nomatch h), fun _ => rfl⟩
  | x :: xs => by
    show (fz x && fzAll xs) = true ↔ _
    rw [Bool.and_eq_true, fzAll_iff]
    refine ⟨fun h d m => ?_, fun h => ⟨h x List.mem_cons_self, fun d m => h d (List.mem_cons_of_mem _ m)⟩⟩
    rcases List.mem_cons.mp m with e | m
    · rw [e]; exact h.1
    · exact h.2 d m
theorem layAll_iff : ∀ {ds : List PyData}, PyData.canLayAll0 ds = true ↔ ∀ d, d ∈ ds → d.canLay0 = true
  | [] => ⟨fun _ _ h => (nomatch h), fun _ => by simp only [PyData.canLayAll0]⟩
  | x :: xs => by
    have e : PyData.canLayAll0 (x :: xs) = (x.canLay0 && PyData.canLayAll0 xs) := by rw [PyData.canLayAll0]
    rw [e, Bool.and_eq_true, layAll_iff]
    refine ⟨fun h d m => ?_, fun h => ⟨h x List.mem_cons_self, fun d m => h d (List.mem_cons_of_mem _ m)⟩⟩
    rcases List.mem_cons.mp m with e | m
    · rw [e]; exact h.1
    · exact h.2 d m
theorem depthAll_le : ∀ {ds : List PyData} {n : Nat}, (∀ d, d ∈ ds → d.depth ≤ n) → PyData.depthAll ds ≤ n
  | [], n, _ => by simp only [PyData.depthAll, Nat.zero_le]
  | x :: xs, n, h => by
    have h1 := h x List.mem_cons_self
    have h2 := depthAll_le (ds := xs) (n := n) fun d m => h d (List.mem_cons_of_mem _ m)
    simp only [PyData.depthAll]
    omega
theorem depth_mem : ∀ {ds : List PyData} {d : PyData}, d ∈ ds → d.depth ≤ PyData.depthAll ds
  | x :: xs, d, h => by
    have e : PyData.depthAll (x :: xs) = max x.depth (PyData.depthAll xs) := by simp only [PyData.depthAll]
    rw [e]
    rcases List.mem_cons.mp h with e | m
    · subst e
      omega
    · have := depth_mem m
      omega
inductive P where
  | num (i : Int)
  | nam (x : Str)
  | fn (x : Str)
  | op (k : Str) (as : List P)
  | lt (nm : List Str) (as : List P) (b : P)

def kinds : List (Str × Nat) := [("give", 2), ("plus", 2), ("less", 2), ("times", 2), ("below", 2), ("when", 3), ("pair", 2), ("left", 1), ("right", 1)]
def nmOk (x : Str) : Prop := 1 ≤ x.length ∧ x.length ≤ 8 ∧ ∀ c, c ∈ x.cps.toList → 97 ≤ c ∧ c ≤ 122
theorem nmOk.strOk {x : Str} (h : nmOk x) : PyData.strOk x = true := by
  unfold PyData.strOk
  rw [Array.all_eq_true_iff_forall_mem]
  intro c hc
  have := h.2.2 c (by simpa using hc)
  exact decide_eq_true (by omega)

def rowD (x : Str) (d : PyData) : PyData := .tuple [.str x, d]
mutual
def P.data : P → PyData
  | .num i => .tuple [.str "number", .int i]
  | .nam x => .tuple [.str "name", .str x]
  | .fn x => .tuple [.str "fun", .str x]
  | .op k as => .tuple (.str k :: P.datas as)
  | .lt nm as b => .tuple [.str "let", .tuple (List.zipWith rowD nm (P.datas as)), P.data b]
def P.datas : List P → List PyData
  | [] => []
  | a :: as => P.data a :: P.datas as
end
theorem datas_map : ∀ as : List P, P.datas as = as.map P.data
  | [] => rfl
  | a :: as => by
    show P.data a :: P.datas as = P.data a :: as.map P.data
    rw [datas_map as]
theorem datas_len (as : List P) : (P.datas as).length = as.length := by rw [datas_map, List.length_map]

mutual
def P.many : P → Nat
  | .op _ as => 1 + P.manys as
  | .lt _ as b => 1 + (P.manys as + P.many b)
  | _ => 1
def P.manys : List P → Nat
  | [] => 0
  | a :: as => P.many a + P.manys as
end
mutual
def P.deep : P → Nat
  | .op _ as => 1 + P.deeps as
  | .lt _ as b => 1 + max (P.deeps as) (P.deep b)
  | _ => 1
def P.deeps : List P → Nat
  | [] => 0
  | a :: as => max (P.deep a) (P.deeps as)
end
mutual
/-- it is a part: kinds, names -/
def P.ok : P → Prop
  | .num _ => True
  | .nam x => nmOk x
  | .fn x => nmOk x
  | .op k as => (k, as.length) ∈ kinds ∧ P.oks as
  | .lt nm as b => nm.length = as.length ∧ (∀ x, x ∈ nm → nmOk x) ∧ P.oks as ∧ P.ok b
def P.oks : List P → Prop
  | [] => True
  | a :: as => P.ok a ∧ P.oks as
end
def P.inn : P → List P
  | .op _ as => as
  | .lt _ as b => as ++ [b]
  | _ => []

theorem oks_iff : ∀ {as : List P}, P.oks as ↔ ∀ a, a ∈ as → a.ok
  | [] => ⟨fun _ _ h => (nomatch h), fun _ => True.intro⟩
  | x :: xs => by
    show (P.ok x ∧ P.oks xs) ↔ _
    rw [oks_iff]
    refine ⟨fun h d m => ?_, fun h => ⟨h x List.mem_cons_self, fun d m => h d (List.mem_cons_of_mem _ m)⟩⟩
    rcases List.mem_cons.mp m with e | m
    · rw [e]; exact h.1
    · exact h.2 d m
theorem manys_append : ∀ as bs : List P, P.manys (as ++ bs) = P.manys as + P.manys bs
  | [], bs => by
    show P.manys bs = 0 + P.manys bs
    omega
  | a :: as, bs => by
    show P.many a + P.manys (as ++ bs) = P.many a + P.manys as + P.manys bs
    rw [manys_append as bs]
    omega
theorem deeps_append : ∀ as bs : List P, P.deeps (as ++ bs) = max (P.deeps as) (P.deeps bs)
  | [], bs => by
    show P.deeps bs = max 0 (P.deeps bs)
    omega
  | a :: as, bs => by
    show max (P.deep a) (P.deeps (as ++ bs)) = max (max (P.deep a) (P.deeps as)) (P.deeps bs)
    rw [deeps_append as bs]
    omega
theorem deeps_mem : ∀ {as : List P} {a : P}, a ∈ as → a.deep ≤ P.deeps as
  | x :: xs, a, h => by
    show a.deep ≤ max x.deep (P.deeps xs)
    rcases List.mem_cons.mp h with e | m
    · subst e
      omega
    · have := deeps_mem m
      omega
theorem deeps_le : ∀ {as : List P} {n : Nat}, (∀ a, a ∈ as → a.deep ≤ n) → P.deeps as ≤ n
  | [], n, _ => Nat.zero_le _
  | x :: xs, n, h => by
    show max x.deep (P.deeps xs) ≤ n
    have h1 := h x List.mem_cons_self
    have h2 := deeps_le (as := xs) (n := n) fun d m => h d (List.mem_cons_of_mem _ m)
    omega
theorem manys_map : ∀ as : List P, P.manys as = (as.map P.many).sum
  | [] => rfl
  | a :: as => by
    show P.many a + P.manys as = _
    rw [manys_map as, List.map_cons, List.sum_cons]
theorem many_inn : ∀ t : P, t.many = 1 + P.manys t.inn
  | .num _ => rfl
  | .nam _ => rfl
  | .fn _ => rfl
  | .op _ _ => rfl
  | .lt nm as b => by
    show 1 + (P.manys as + P.many b) = 1 + P.manys (as ++ [b])
    rw [manys_append]
    rfl
theorem deep_inn : ∀ t : P, t.deep = 1 + P.deeps t.inn
  | .num _ => rfl
  | .nam _ => rfl
  | .fn _ => rfl
  | .op _ _ => rfl
  | .lt nm as b => by
    show 1 + max (P.deeps as) (P.deep b) = 1 + P.deeps (as ++ [b])
    rw [deeps_append]
    show 1 + max (P.deeps as) (P.deep b) = 1 + max (P.deeps as) (max (P.deep b) 0)
    omega
theorem inn_ok : ∀ {t : P}, t.ok → ∀ a, a ∈ t.inn → a.ok
  | .num _, _, _, m => nomatch m
  | .nam _, _, _, m => nomatch m
  | .fn _, _, _, m => nomatch m
  | .op _ as, h, a, m => oks_iff.mp h.2 a m
  | .lt nm as b, h, a, m => by
    rcases List.mem_append.mp (show a ∈ as ++ [b] from m) with m | m
    · exact oks_iff.mp h.2.2.1 a m
    · rw [List.mem_singleton.mp m]
      exact h.2.2.2
theorem many_pos (t : P) : 1 ≤ t.many := by
  rw [many_inn]
  omega
theorem deep_pos (t : P) : 1 ≤ t.deep := by
  rw [deep_inn]
  omega
theorem inn_deep {t a : P} (m : a ∈ t.inn) : a.deep + 1 ≤ t.deep := by
  have := deeps_mem m
  rw [deep_inn t]
  omega
theorem len_manys : ∀ as : List P, as.length ≤ P.manys as
  | [] => Nat.le_refl _
  | a :: as => by
    show as.length + 1 ≤ P.many a + P.manys as
    have h1 := len_manys as
    have h2 := many_pos a
    omega

/-! ### as data: no list, no strange sign, not too deep -/
theorem zip_mem : ∀ {nm : List Str} {ds : List PyData} {d : PyData}, d ∈ List.zipWith rowD nm ds → ∃ x e, x ∈ nm ∧ e ∈ ds ∧ d = rowD x e
  | [], _, _, h => by simp at h
  | _ :: _, [], _, h => by simp at h
  | x :: nm, e :: ds, d, h => by
    rw [List.zipWith_cons_cons] at h
    rcases List.mem_cons.mp h with q | m
    · exact ⟨x, e, List.mem_cons_self, List.mem_cons_self, q⟩
    · obtain ⟨y, f, h1, h2, h3⟩ := zip_mem m
      exact ⟨y, f, List.mem_cons_of_mem _ h1, List.mem_cons_of_mem _ h2, h3⟩
theorem kind_str {k : Str} {n : Nat} (h : (k, n) ∈ kinds) : PyData.strOk k = true := by
  have h0 : kinds.all (fun p => PyData.strOk p.1) = true := by decide +kernel
  exact List.all_eq_true.mp h0 _ h
mutual
theorem data_fz : ∀ t : P, fz t.data = true
  | .num _ => rfl
  | .nam _ => rfl
  | .fn _ => rfl
  | .op k as => datas_fz as
  | .lt nm as b => by
    show (fz (.tuple (List.zipWith rowD nm (P.datas as))) && (fz b.data && true)) = true
    rw [data_fz b, Bool.and_true, Bool.and_true]
    refine fzAll_iff.mpr fun d m => ?_
    obtain ⟨x, e, _, he, rfl⟩ := zip_mem m
    have := fzAll_iff.mp (datas_fz as) e he
    show (fz e && true) = true
    rw [this]
    rfl
theorem datas_fz : ∀ as : List P, fzAll (P.datas as) = true
  | [] => rfl
  | a :: as => by
    show (fz a.data && fzAll (P.datas as)) = true
    rw [data_fz a, datas_fz as]
    rfl
end
theorem lay_tup (xs : List PyData) : (PyData.tuple xs).canLay0 = PyData.canLayAll0 xs := by rw [PyData.canLay0]
theorem lay_str (x : Str) : (PyData.str x).canLay0 = PyData.strOk x := by rw [PyData.canLay0]
theorem lay_cons (x : PyData) (xs : List PyData) : PyData.canLayAll0 (x :: xs) = (x.canLay0 && PyData.canLayAll0 xs) := by rw [PyData.canLayAll0]
theorem lay_nil : PyData.canLayAll0 [] = true := by rw [PyData.canLayAll0]
mutual
theorem data_lay : ∀ t : P, t.ok → t.data.canLay0 = true
  | .num _, _ => by
    show (PyData.tuple [.str "number", .int _]).canLay0 = true
    rw [lay_tup, lay_cons, lay_cons, lay_nil, lay_str]
    simp only [PyData.canLay0]
    decide +kernel
  | .nam x, h => by
    show (PyData.tuple [.str "name", .str x]).canLay0 = true
    rw [lay_tup, lay_cons, lay_cons, lay_nil, lay_str, lay_str, nmOk.strOk (show nmOk x from h)]
    decide +kernel
  | .fn x, h => by
    show (PyData.tuple [.str "fun", .str x]).canLay0 = true
    rw [lay_tup, lay_cons, lay_cons, lay_nil, lay_str, lay_str, nmOk.strOk (show nmOk x from h)]
    decide +kernel
  | .op k as, h => by
    show (PyData.tuple (.str k :: P.datas as)).canLay0 = true
    have h' : (k, as.length) ∈ kinds ∧ P.oks as := h
    rw [lay_tup, lay_cons, lay_str, kind_str h'.1, datas_lay as h'.2]
    rfl
  | .lt nm as b, h => by
    show (PyData.tuple [.str "let", .tuple (List.zipWith rowD nm (P.datas as)), b.data]).canLay0 = true
    have h' : nm.length = as.length ∧ (∀ x, x ∈ nm → nmOk x) ∧ P.oks as ∧ P.ok b := h
    have hr : PyData.canLayAll0 (List.zipWith rowD nm (P.datas as)) = true := layAll_iff.mpr fun d m => by
      obtain ⟨x, e, hx, he, rfl⟩ := zip_mem m
      have q := layAll_iff.mp (datas_lay as h'.2.2.1) e he
      show (PyData.tuple [.str x, e]).canLay0 = true
      rw [lay_tup, lay_cons, lay_cons, lay_nil, lay_str, nmOk.strOk (h'.2.1 x hx), q]
      rfl
    rw [lay_tup, lay_cons, lay_cons, lay_cons, lay_nil, lay_str, lay_tup, hr, data_lay b h'.2.2.2]
    decide +kernel
theorem datas_lay : ∀ as : List P, P.oks as → PyData.canLayAll0 (P.datas as) = true
  | [], _ => lay_nil
  | a :: as, h => by
    have h' : P.ok a ∧ P.oks as := h
    show PyData.canLayAll0 (a.data :: P.datas as) = true
    rw [lay_cons, data_lay a h'.1, datas_lay as h'.2]
    rfl
end
theorem depth_tup (xs : List PyData) : (PyData.tuple xs).depth = PyData.depthAll xs + 1 := by simp only [PyData.depth]; try omega
theorem depth_str (x : Str) : (PyData.str x).depth = 0 := by simp only [PyData.depth]
theorem depthAll_cons (x : PyData) (xs : List PyData) : PyData.depthAll (x :: xs) = max x.depth (PyData.depthAll xs) := by simp only [PyData.depthAll]
mutual
theorem data_depth : ∀ t : P, t.data.depth ≤ 3 * t.deep
  | .num i => by
    show (PyData.tuple [.str "number", .int i]).depth ≤ 3 * 1
    simp only [PyData.depth, PyData.depthAll]
    try omega
  | .nam x => by
    show (PyData.tuple [.str "name", .str x]).depth ≤ 3 * 1
    simp only [PyData.depth, PyData.depthAll]
    try omega
  | .fn x => by
    show (PyData.tuple [.str "fun", .str x]).depth ≤ 3 * 1
    simp only [PyData.depth, PyData.depthAll]
    try omega
  | .op k as => by
    show (PyData.tuple (.str k :: P.datas as)).depth ≤ 3 * (1 + P.deeps as)
    have h1 := datas_depth as
    have h2 := depth_str k
    rw [depth_tup, depthAll_cons]
    omega
  | .lt nm as b => by
    show (PyData.tuple [.str "let", .tuple (List.zipWith rowD nm (P.datas as)), b.data]).depth ≤ 3 * (1 + max (P.deeps as) b.deep)
    have h1 := datas_depth as
    have h2 := data_depth b
    have h3 := depth_str "let"
    have h4 : PyData.depthAll (List.zipWith rowD nm (P.datas as)) ≤ 3 * P.deeps as + 1 := depthAll_le fun d m => by
      obtain ⟨x, e, hx, he, rfl⟩ := zip_mem m
      have q : e.depth ≤ PyData.depthAll (P.datas as) := depth_mem he
      show (PyData.tuple [.str x, e]).depth ≤ _
      have h5 := depth_str x
      rw [depth_tup, depthAll_cons, depthAll_cons]
      simp only [PyData.depthAll]
      omega
    rw [depth_tup, depthAll_cons, depthAll_cons, depthAll_cons, depth_tup]
    simp only [PyData.depthAll]
    omega
theorem datas_depth : ∀ as : List P, PyData.depthAll (P.datas as) ≤ 3 * P.deeps as
  | [] => by
    show PyData.depthAll [] ≤ _
    simp only [PyData.depthAll]
    try omega
  | a :: as => by
    have h1 := data_depth a
    have h2 := datas_depth as
    show PyData.depthAll (a.data :: P.datas as) ≤ 3 * max a.deep (P.deeps as)
    rw [depthAll_cons]
    omega
end
theorem data_shaped {t : P} (h : t.ok) (hd : t.deep ≤ 20) : SeqAt.shaped t.data = true := by
  have h1 := data_depth t
  unfold SeqAt.shaped
  rw [data_lay t h, Bool.true_and]
  exact decide_eq_true (by omega)
theorem datas_shaped {as : List P} (h : P.oks as) (hd : P.deeps as ≤ 20) : SeqAt.shaped (.list (P.datas as)) = true := by
  have h1 := datas_depth as
  have e : (PyData.list (P.datas as)).depth = PyData.depthAll (P.datas as) + 1 := by simp only [PyData.depth]; try omega
  have e2 : (PyData.list (P.datas as)).canLay0 = PyData.canLayAll0 (P.datas as) := by rw [PyData.canLay0]
  unfold SeqAt.shaped
  rw [e2, datas_lay as h, Bool.true_and]
  exact decide_eq_true (by omega)

/-! ### what a drawing makes -/
def gives (f : P) (as : List P) : P := as.foldl (fun a d => .op "give" [a, d]) f
theorem gives_snoc (f : P) (as : List P) (d : P) : gives f (as ++ [d]) = .op "give" [gives f as, d] := by
  unfold gives
  rw [List.foldl_append]
  rfl
/-- parts drawn one behind the other: of the functions W, the scope, the depth, with n parts and the names ss left ahead, n' and ss' behind -/
inductive Dr (W : List (Str × Int)) : List Str → Int → Int → List Str → Int → List Str → List P → Prop
  | nil {sc : List Str} {dp n : Int} {ss : List Str} : Dr W sc dp n ss n ss []
  | num {sc ss ss' : List Str} {dp n n' i : Int} {ds : List P} : i.natAbs < 10 ^ 60 → Dr W sc dp n ss n' ss' ds → Dr W sc dp n ss n' ss' (.num i :: ds)
  | nam {sc ss ss' : List Str} {dp n n' : Int} {x : Str} {ds : List P} : x ∈ sc → Dr W sc dp n ss n' ss' ds → Dr W sc dp n ss n' ss' (.nam x :: ds)
  | fn {sc ss ss' : List Str} {dp n n' w : Int} {f : Str} {ds : List P} : (f, w) ∈ W → Dr W sc dp n ss n' ss' ds → Dr W sc dp n ss n' ss' (.fn f :: ds)
  | call {sc ss ss1 ss' : List Str} {dp n n1 n' w : Int} {f : Str} {as ds : List P} : (f, w) ∈ W → 6 ≤ dp → as.length ≤ 5 → 2 * (as.length : Int) ≤ n →
      Dr W sc (dp - 1 - as.length) (n - 2 * as.length) ss n1 ss1 as → Dr W sc dp n1 ss1 n' ss' ds → Dr W sc dp n ss n' ss' (gives (.fn f) as :: ds)
  | lt {sc nm ss ss1 ss' : List Str} {dp n n1 n' : Int} {as ds : List P} {b : P} {k : Nat} : 1 ≤ dp → 1 ≤ nm.length → nm.length ≤ 4 → ss.drop k = nm.reverse → k + nm.length = ss.length → nm.length = as.length → (nm.length : Int) + 1 ≤ n →
      Dr W (sc ++ nm) (dp - 1) (n - (nm.length + 1)) (ss.take k) n1 ss1 (as ++ [b]) → Dr W sc dp n1 ss1 n' ss' ds → Dr W sc dp n ss n' ss' (.lt nm as b :: ds)
  | op {sc ss ss1 ss' : List Str} {dp n n1 n' : Int} {k : Str} {as ds : List P} : (k, as.length) ∈ kinds → 1 ≤ dp → (as.length : Int) ≤ n →
      Dr W sc (dp - 1) (n - as.length) ss n1 ss1 as → Dr W sc dp n1 ss1 n' ss' ds → Dr W sc dp n ss n' ss' (.op k as :: ds)

theorem Dr.append {W : List (Str × Int)} {sc ss ss1 ss' : List Str} {dp n n1 n' : Int} {as bs : List P} (h : Dr W sc dp n ss n1 ss1 as) : Dr W sc dp n1 ss1 n' ss' bs → Dr W sc dp n ss n' ss' (as ++ bs) := by
  induction h with
  | nil => exact id
  | num a _ ih => exact fun k => .num a (ih k)
  | nam a _ ih => exact fun k => .nam a (ih k)
  | fn a _ ih => exact fun k => .fn a (ih k)
  | call a b c d e _ _ ih => exact fun k => .call a b c d e (ih k)
  | lt a b c d e f g h _ _ ih => exact fun k => .lt a b c d e f g h (ih k)
  | op a b c d _ _ ih => exact fun k => .op a b c d (ih k)
/-- the names left are those ahead, some at the end gone -/
theorem Dr.names {W : List (Str × Int)} {sc ss ss' : List Str} {dp n n' : Int} {ds : List P} (h : Dr W sc dp n ss n' ss' ds) : ∃ m, ss' = ss.take m := by
  induction h with
  | nil => exact ⟨_, List.take_length.symm⟩
  | num _ _ ih => exact ih
  | nam _ _ ih => exact ih
  | fn _ _ ih => exact ih
  | call _ _ _ _ _ _ i1 i2 =>
    obtain ⟨m1, rfl⟩ := i1
    obtain ⟨m2, rfl⟩ := i2
    exact ⟨_, List.take_take⟩
  | lt _ _ _ _ _ _ _ _ _ i1 i2 =>
    obtain ⟨m1, rfl⟩ := i1
    obtain ⟨m2, rfl⟩ := i2
    exact ⟨_, by rw [List.take_take, List.take_take]⟩
  | op _ _ _ _ _ i1 i2 =>
    obtain ⟨m1, rfl⟩ := i1
    obtain ⟨m2, rfl⟩ := i2
    exact ⟨_, List.take_take⟩
theorem Dr.sub {W : List (Str × Int)} {sc ss ss' : List Str} {dp n n' : Int} {ds : List P} (h : Dr W sc dp n ss n' ss' ds) : ∀ x, x ∈ ss' → x ∈ ss := fun x m => by
  obtain ⟨k, rfl⟩ := h.names
  exact List.mem_of_mem_take m
theorem Dr.len {W : List (Str × Int)} {sc ss ss' : List Str} {dp n n' : Int} {ds : List P} (h : Dr W sc dp n ss n' ss' ds) : ss'.length ≤ ss.length := by
  obtain ⟨k, rfl⟩ := h.names
  rw [List.length_take]
  omega
theorem gives_ok : ∀ {as : List P} {f : P}, f.ok → (∀ a, a ∈ as → a.ok) → (gives f as).ok
  | [], _, h, _ => h
  | a :: as, f, h, k => by
    show (gives (.op "give" [f, a]) as).ok
    refine gives_ok ⟨?_, h, k a List.mem_cons_self, True.intro⟩ fun b m => k b (List.mem_cons_of_mem _ m)
    show (("give" : Str), 2) ∈ kinds
    exact List.mem_cons_self
theorem gives_many : ∀ {as : List P} {f : P}, (gives f as).many = f.many + P.manys as + as.length
  | [], f => by
    show f.many = f.many + 0 + 0
    omega
  | a :: as, f => by
    show (gives (.op "give" [f, a]) as).many = f.many + (a.many + P.manys as) + (as.length + 1)
    rw [gives_many]
    show 1 + (f.many + (a.many + 0)) + _ + _ = _
    omega
theorem gives_deep : ∀ {as : List P} {f : P}, (gives f as).deep ≤ max f.deep (P.deeps as) + as.length
  | [], f => by
    show f.deep ≤ max f.deep 0 + 0
    omega
  | a :: as, f => by
    have h := gives_deep (as := as) (f := .op "give" [f, a])
    have e : (P.op "give" [f, a]).deep = 1 + max f.deep (max a.deep 0) := rfl
    show (gives (.op "give" [f, a]) as).deep ≤ max f.deep (max a.deep (P.deeps as)) + (as.length + 1)
    omega
/-- names of functions, of the scope and those left are names -/
structure Nms (W : List (Str × Int)) (sc ss : List Str) : Prop where
  w : ∀ f, f ∈ W → nmOk f.1
  c : ∀ x, x ∈ sc → nmOk x
  s : ∀ x, x ∈ ss → nmOk x
theorem Dr.ok {W : List (Str × Int)} {sc ss ss' : List Str} {dp n n' : Int} {ds : List P} (h : Dr W sc dp n ss n' ss' ds) : Nms W sc ss → ∀ d, d ∈ ds → d.ok := by
  induction h with
  | nil => exact fun _ _ m => nomatch m
  | num _ _ ih =>
    intro N d m
    rcases List.mem_cons.mp m with e | m
    · rw [e]; exact True.intro
    · exact ih N d m
  | nam hx _ ih =>
    intro N d m
    rcases List.mem_cons.mp m with e | m
    · rw [e]; exact N.c _ hx
    · exact ih N d m
  | fn hf _ ih =>
    intro N d m
    rcases List.mem_cons.mp m with e | m
    · rw [e]; exact N.w _ hf
    · exact ih N d m
  | call hf _ _ _ k1 k2 i1 i2 =>
    intro N d m
    rcases List.mem_cons.mp m with e | m
    · rw [e]
      exact gives_ok (N.w _ hf) (i1 N)
    · exact i2 ⟨N.w, N.c, fun x hx => N.s x (k1.sub x hx)⟩ d m
  | @lt sc nm ss ss1 ss' dp n n1 n' as ds b k _ _ _ e1 e2 e3 _ k1 k2 i1 i2 =>
    intro N d m
    have hnm : ∀ x, x ∈ nm → x ∈ ss := fun x hx => by
      have : x ∈ ss.drop k := by rw [e1]; exact List.mem_reverse.mpr hx
      exact List.mem_of_mem_drop this
    rcases List.mem_cons.mp m with e | m
    · have q := i1 ⟨N.w, fun x hx => (List.mem_append.mp hx).elim (N.c x) fun hx => N.s x (hnm x hx), fun x hx => N.s x (List.mem_of_mem_take hx)⟩
      rw [e]
      exact ⟨e3, fun x hx => N.s x (hnm x hx), oks_iff.mpr fun a ha => q a (List.mem_append_left _ ha), q b (List.mem_append_right _ List.mem_cons_self)⟩
    · exact i2 ⟨N.w, N.c, fun x hx => N.s x (List.mem_of_mem_take (k1.sub x hx))⟩ d m
  | op hk _ _ k1 k2 i1 i2 =>
    intro N d m
    rcases List.mem_cons.mp m with e | m
    · rw [e]
      exact ⟨hk, oks_iff.mpr (i1 N)⟩
    · exact i2 ⟨N.w, N.c, fun x hx => N.s x (k1.sub x hx)⟩ d m
theorem Dr.many {W : List (Str × Int)} {sc ss ss' : List Str} {dp n n' : Int} {ds : List P} (h : Dr W sc dp n ss n' ss' ds) : (P.manys ds : Int) = ds.length + (n - n') := by
  induction h with
  | nil =>
    show ((0 : Nat) : Int) = ((0 : Nat) : Int) + _
    omega
  | @num sc ss ss' dp n n' i ds _ _ ih =>
    show ((1 + P.manys ds : Nat) : Int) = ((ds.length + 1 : Nat) : Int) + (n - n')
    omega
  | @nam sc ss ss' dp n n' i ds _ _ ih =>
    show ((1 + P.manys ds : Nat) : Int) = ((ds.length + 1 : Nat) : Int) + (n - n')
    omega
  | @fn sc ss ss' dp n n' i f ds _ _ ih =>
    show ((1 + P.manys ds : Nat) : Int) = ((ds.length + 1 : Nat) : Int) + (n - n')
    omega
  | @call sc ss ss1 ss' dp n n1 n' w f as ds _ _ _ _ _ _ i1 i2 =>
    have e : (gives (.fn f) as).many = 1 + P.manys as + as.length := gives_many
    show (((gives (.fn f) as).many + P.manys ds : Nat) : Int) = ((ds.length + 1 : Nat) : Int) + (n - n')
    rw [e]
    omega
  | @lt sc nm ss ss1 ss' dp n n1 n' as ds b k _ _ _ e1 e2 e3 _ k1 k2 i1 i2 =>
    rw [manys_append] at i1
    have e : P.manys [b] = b.many + 0 := rfl
    rw [List.length_append] at i1
    show ((1 + (P.manys as + b.many) + P.manys ds : Nat) : Int) = ((ds.length + 1 : Nat) : Int) + (n - n')
    have e5 : [b].length = 1 := rfl
    omega
  | @op sc ss ss1 ss' dp n n1 n' kd as ds _ _ _ _ _ i1 i2 =>
    show ((1 + P.manys as + P.manys ds : Nat) : Int) = ((ds.length + 1 : Nat) : Int) + (n - n')
    omega
theorem Dr.less {W : List (Str × Int)} {sc ss ss' : List Str} {dp n n' : Int} {ds : List P} (h : Dr W sc dp n ss n' ss' ds) : n' ≤ n := by
  have := h.many
  have := len_manys ds
  omega
theorem Dr.nonneg {W : List (Str × Int)} {sc ss ss' : List Str} {dp n n' : Int} {ds : List P} (h : Dr W sc dp n ss n' ss' ds) : 0 ≤ n → 0 ≤ n' := by
  induction h with
  | nil => exact id
  | num _ _ ih => exact ih
  | nam _ _ ih => exact ih
  | fn _ _ ih => exact ih
  | call _ _ _ _ _ _ i1 i2 => exact fun h => i2 (i1 (by omega))
  | lt _ _ _ _ _ _ _ _ _ i1 i2 => exact fun h => i2 (i1 (by omega))
  | op _ _ _ _ _ i1 i2 => exact fun h => i2 (i1 (by omega))
theorem Dr.deep {W : List (Str × Int)} {sc ss ss' : List Str} {dp n n' : Int} {ds : List P} (h : Dr W sc dp n ss n' ss' ds) : P.deeps ds ≤ dp.toNat + 1 := by
  induction h with
  | nil => exact Nat.zero_le _
  | num _ _ ih =>
    show max 1 (P.deeps _) ≤ _
    omega
  | nam _ _ ih =>
    show max 1 (P.deeps _) ≤ _
    omega
  | fn _ _ ih =>
    show max 1 (P.deeps _) ≤ _
    omega
  | @call sc ss ss1 ss' dp n n1 n' w f as ds _ _ _ _ _ _ i1 i2 =>
    have e : (gives (.fn f) as).deep ≤ max 1 (P.deeps as) + as.length := gives_deep
    show max (gives (.fn f) as).deep (P.deeps ds) ≤ _
    omega
  | @lt sc nm ss ss1 ss' dp n n1 n' as ds b k _ _ _ e1 e2 e3 _ k1 k2 i1 i2 =>
    rw [deeps_append] at i1
    have e : P.deeps [b] = max b.deep 0 := rfl
    show max (1 + max (P.deeps as) b.deep) (P.deeps ds) ≤ _
    omega
  | @op sc ss ss1 ss' dp n n1 n' kd as ds _ _ _ _ _ i1 i2 =>
    show max (1 + P.deeps as) (P.deeps ds) ≤ _
    omega
theorem kind_plain {k : Str} {n : Nat} (h : (k, n) ∈ kinds) : k ≠ "let" ∧ k ≠ "number" ∧ k ≠ "name" ∧ k ≠ "fun" := by
  have h0 : kinds.all (fun p => decide (p.1 ≠ "let") && decide (p.1 ≠ "number") && decide (p.1 ≠ "name") && decide (p.1 ≠ "fun")) = true := by decide +kernel
  have q := List.all_eq_true.mp h0 _ h
  simp only [Bool.and_eq_true, decide_eq_true_eq] at q
  exact ⟨q.1.1.1, q.1.1.2, q.1.2, q.2⟩
/-- the greatest of the depths -/
theorem deeps_is : ∀ {as : List P} {m : Int}, m ∈ as.map (fun t => (t.deep : Int)) → (∀ y, y ∈ as.map (fun t => (t.deep : Int)) → y ≤ m) → m = (P.deeps as : Int)
  | as, m, h, k => by
    obtain ⟨t, ht, rfl⟩ := List.mem_map.mp h
    have h1 := deeps_mem ht
    have h2 : P.deeps as ≤ t.deep := deeps_le fun a ha => by
      have := k (a.deep : Int) (List.mem_map.mpr ⟨a, ha, rfl⟩)
      omega
    omega
theorem manys_sum : ∀ as : List P, (as.map (fun t => (t.many : Int))).sum = (P.manys as : Int)
  | [] => rfl
  | a :: as => by
    rw [List.map_cons, List.sum_cons, manys_sum as]
    show (a.many : Int) + (P.manys as : Int) = ((a.many + P.manys as : Nat) : Int)
    omega
theorem arity_le {k : Str} {n : Nat} (h : (k, n) ∈ kinds) : 1 ≤ n ∧ n ≤ 3 := by
  have h0 : kinds.all (fun p => decide (1 ≤ p.2) && decide (p.2 ≤ 3)) = true := by decide +kernel
  have q := List.all_eq_true.mp h0 _ h
  simp only [Bool.and_eq_true, decide_eq_true_eq] at q
  exact q
theorem rows_fz {nm : List Str} {as : List P} : fzAll (List.zipWith rowD nm (P.datas as)) = true := fzAll_iff.mpr fun d m => by
  obtain ⟨x, e, _, he, rfl⟩ := zip_mem m
  have := fzAll_iff.mp (datas_fz as) e he
  show (true && (fz e && true)) = true
  rw [this]
  rfl
end Lz

set_option Elab.async false
set_option linter.all false
set_option maxRecDepth 100000
set_option maxHeartbeats 4000000
/-! What is kept while lists of a few addresses change; parts as data; what a drawing may make. -/
namespace Lz
open PySem PySem.Spec PyProof.Rows L2

/-! ### heaps: all is kept but the lists at the addresses of S -/
def Kp (S : List Addr) (H H' : Hp) : Prop := ∀ b o, H b = some o → (b ∈ S → ∀ xs, o ≠ HO.lst xs) → H' b = some o
section
variable {S T : List Addr} {H H1 H2 H' : Hp} {K : PySem.W.Frag} {a b p : Addr} {xs ys : List V} {o : HO}
theorem Kp.refl (S : List Addr) (H : Hp) : Kp S H H := fun _ _ h _ => h
theorem Kp.trans (h : Kp S H H1) (k : Kp S H1 H2) : Kp S H H2 := fun c o e n => k c o (h c o e n) n
theorem Kp.mono (h : Kp S H H') (m : ∀ x, x ∈ S → x ∈ T) : Kp T H H' := fun c o e n => h c o e fun i => n (m c i)
theorem Kp.same (h : Same H H') : Kp S H H' := fun b o e _ => h b o e
theorem Kp.new (h : H p = none) : Kp S H (upd H p o) := fun b x e _ => by
  rw [upd_ne (ne_of_none e h)]
  exact e
theorem Kp.put (h : H p = some (.lst xs)) (m : p ∈ S) : Kp S H (upd H p o) := fun b x e n => by
  by_cases q : b = p
  · subst q
    exact absurd (Option.some.inj (e.symm.trans h)) (n m xs)
  · rw [upd_ne q]
    exact e
theorem Kp.lst (k : Kp S H H') (h : H a = some (.lst xs)) (n : ¬ a ∈ S) : H' a = some (.lst xs) := k a _ h fun m => absurd m n
theorem Kp.tup (k : Kp S H H') (h : H a = some (.tup xs)) : H' a = some (.tup xs) := k a _ h fun _ _ => fun e => nomatch e
theorem Kp.sqT (k : Kp S H H') (h : SqT K H a xs) : SqT K H' a xs := by
  rcases h with (h | ⟨o, h⟩) | h
  · exact .inl (.inl (k.tup h))
  · exact .inl (.inr ⟨o, k a _ h fun _ _ e => nomatch e⟩)
  · exact .inr h
theorem Kp.sqL (k : Kp S H H') (h : SqL K H a xs) (n : ¬ a ∈ S) : SqL K H' a xs := by
  rcases h with (h | ⟨o, h⟩) | h
  · exact .inl (.inl (k.lst h n))
  · exact .inl (.inr ⟨o, k a _ h fun _ _ e => nomatch e⟩)
  · exact .inr h
theorem Kp.free (k : Kp S H H1) (h : H1 p = none) (n : ¬ p ∈ S) : H p = none := by
  cases e : H p with
  | none => rfl
  | some o =>
    have := k p o e fun m => absurd m n
    rw [h] at this
    cases this
/-- an object that H does not know may change -/
theorem Kp.mut (k : Kp S H H') (h : H p = none) : Kp S H (upd H' p o) := fun b x e n => by
  rw [upd_ne (ne_of_none e h)]
  exact k b x e n
theorem same_new (h : H p = none) : Same H (upd H p o) := fun b u q => by
  rw [upd_ne (ne_of_none q h)]
  exact q
end

end Lz
namespace L2
open PySem PySem.Spec PyProof.Rows Lz
section
variable {S : List Addr} {H H' : Hp} {K : PySem.W.Frag}
mutual
theorem Dp.keep (k : Kp S H H') : ∀ (d : PyData) (v : V), fz d = true → Dp K H v d → Dp K H' v d
  | .none, _, _, h => by cases h; exact .non
  | .bool b, _, _, h => by cases h; exact .bl b
  | .int i, _, _, h => by cases h; exact .int i
  | .str x, _, _, h => by cases h; exact .str x
  | .list ds, _, f, _ => by
    have : false = true := f
    cases this
  | .tuple ds, _, f, h => by
    cases h with
    | tup hs ha => exact .tup (k.sqT hs) (Dp.keepAll k ds _ f ha)
  | .dict _, _, _, h => by cases h
theorem Dp.keepAll (k : Kp S H H') : ∀ (ds : List PyData) (vs : List V), fzAll ds = true → DpAll K H vs ds → DpAll K H' vs ds
  | [], _, _, h => by cases h; exact .nil
  | d :: ds, _, f, h => by
    have f' : fz d = true ∧ fzAll ds = true := by
      have : (fz d && fzAll ds) = true := f
      rwa [Bool.and_eq_true] at this
    cases h with
    | cons h1 h2 => exact .cons (Dp.keep k d _ f'.1 h1) (Dp.keepAll k ds _ f'.2 h2)
end
theorem DpAll.length : ∀ {vs : List V} {ds : List PyData}, DpAll K H vs ds → vs.length = ds.length
  | _, _, .nil => rfl
  | _, _, .cons _ t => by rw [List.length_cons, List.length_cons, DpAll.length t]
theorem DpAll.get : ∀ {vs : List V} {ds : List PyData} {i : Nat} {d : PyData}, DpAll K H vs ds → ds[i]? = some d → ∃ v, vs[i]? = some v ∧ Dp K H v d
  | _, _, _, _, .nil, e => by simp at e
  | _, _, 0, _, .cons h _, e => by
    have e' := Option.some.inj e
    subst e'
    exact ⟨_, rfl, h⟩
  | _, _, i + 1, d, .cons _ t, e => by
    obtain ⟨v, h1, h2⟩ := DpAll.get (i := i) (d := d) t e
    exact ⟨v, h1, h2⟩
theorem DpAll.at : ∀ {vs : List V} {ds : List PyData} {i : Nat} {v : V}, DpAll K H vs ds → vs[i]? = some v → ∃ d, ds[i]? = some d ∧ Dp K H v d
  | _, _, _, _, .nil, e => by simp at e
  | _, _, 0, _, .cons h _, e => by
    have e' := Option.some.inj e
    subst e'
    exact ⟨_, rfl, h⟩
  | _, _, i + 1, d, .cons _ t, e => by
    obtain ⟨v, h1, h2⟩ := DpAll.at (i := i) (v := d) t e
    exact ⟨v, h1, h2⟩
theorem DpAll.append : ∀ {vs ws : List V} {ds es : List PyData}, DpAll K H vs ds → DpAll K H ws es → DpAll K H (vs ++ ws) (ds ++ es)
  | _, _, _, _, .nil, t => t
  | _, _, _, _, .cons h s, t => .cons h (DpAll.append s t)
theorem DpAll.one {v : V} {d : PyData} (h : Dp K H v d) : DpAll K H [v] [d] := .cons h .nil
theorem DpAll.take : ∀ {vs : List V} {ds : List PyData} (n : Nat), DpAll K H vs ds → DpAll K H (vs.take n) (ds.take n)
  | _, _, 0, _ => .nil
  | _, _, _ + 1, .nil => .nil
  | _, _, n + 1, .cons h t => .cons h (DpAll.take n t)
theorem DpAll.drop : ∀ {vs : List V} {ds : List PyData} (n : Nat), DpAll K H vs ds → DpAll K H (vs.drop n) (ds.drop n)
  | _, _, 0, h => h
  | _, _, _ + 1, .nil => .nil
  | _, _, n + 1, .cons _ t => DpAll.drop n t
theorem DpAll.strs : ∀ (xs : List Str), DpAll K H (xs.map V.str) (xs.map PyData.str)
  | [] => .nil
  | x :: xs => .cons (.str x) (DpAll.strs xs)
theorem Dp.tup_of {v : V} {ds : List PyData} (h : Dp K H v (.tuple ds)) : ∃ a xs, v = .ref a ∧ SqT K H a xs ∧ DpAll K H xs ds := by
  cases h with
  | tup hs ha => exact ⟨_, _, rfl, hs, ha⟩
theorem Dp.lst_of {v : V} {ds : List PyData} (h : Dp K H v (.list ds)) : ∃ a xs, v = .ref a ∧ SqL K H a xs ∧ DpAll K H xs ds := by
  cases h with
  | lst hs ha => exact ⟨_, _, rfl, hs, ha⟩
theorem Dp.str_of {v : V} {x : Str} (h : Dp K H v (.str x)) : v = .str x := by cases h; rfl
theorem Dp.int_of {v : V} {i : Int} (h : Dp K H v (.int i)) : v = .int i := by cases h; rfl
/-- a new tuple of data -/
theorem Dp.newT {p : Addr} {xs : List V} {ds : List PyData} (hp : H p = none) (h : DpAll K H xs ds) (f : fzAll ds = true) : Dp K (upd H p (.tup xs)) (.ref p) (.tuple ds) :=
  .tup (.inl (.inl upd_same)) (Dp.keepAll (S := []) (Kp.new hp) ds xs f h)
end
end L2

set_option Elab.async false
set_option linter.all false
set_option maxRecDepth 100000
set_option maxHeartbeats 4000000
/-! Texts: letters, names; small facts of lists as data. -/
namespace Lz
open PySem PySem.Spec PyProof.Rows L2
abbrev letters : Str := "abcdefghijklmnopqrstuvwxyz"
theorem letters_at {r : Int} (h0 : 0 ≤ r) (h1 : r < 26) : atI letters.cps.toList r = some (97 + r.toNat) := by
  have h : ∀ j, j < 26 → letters.cps.toList[j]? = some (97 + j) := by decide +kernel
  have q := atI_nat (xs := letters.cps.toList) (h r.toNat (by omega))
  rwa [Int.toNat_of_nonneg h0] at q
theorem letters_len : letters.length ≤ sizeLine := by decide +kernel
theorem glue_list (sep : Str) (hs : sep.cps = #[]) : ∀ (rest : List Str) (acc : Array Nat), (rest.foldl (fun acc p => acc ++ sep.cps ++ p.cps) acc).toList = acc.toList ++ (rest.map (·.cps.toList)).flatten
  | [], acc => by simp
  | x :: r, acc => by
    rw [List.foldl_cons, glue_list sep hs r, hs]
    simp
theorem join_list (ys : List Str) : (Txt.join ("" : Str) ys).cps.toList = (ys.map (·.cps.toList)).flatten := by
  have hs : ("" : Str).cps = #[] := by decide +kernel
  show ((ys.drop 1).foldl (fun acc p => acc ++ ("" : Str).cps ++ p.cps) (ys.headD Str.empty).cps).toList = _
  rw [glue_list _ hs]
  cases ys with
  | nil => rfl
  | cons x r => simp
def one (c : Nat) : Str := ⟨#[c]⟩
theorem join_ones (cs : List Nat) : (Txt.join ("" : Str) (cs.map one)).cps.toList = cs := by
  rw [join_list, List.map_map]
  induction cs with
  | nil => rfl
  | cons c r ih =>
    rw [List.map_cons, List.flatten_cons, ih]
    rfl
theorem sum_ones : ∀ cs : List Nat, ((cs.map one).map (·.length)).sum = cs.length
  | [] => rfl
  | c :: r => by
    rw [List.map_cons, List.map_cons, List.sum_cons, sum_ones r, List.length_cons]
    show 1 + _ = _
    omega
theorem str_len (z : Str) : z.length = z.cps.toList.length := by
  show z.cps.size = _
  simp
theorem str_ext {a b : Str} (h : a.cps.toList = b.cps.toList) : a = b := by
  cases a
  cases b
  simp only [Str.mk.injEq]
  exact Array.toList_inj.mp h
theorem cat_list (a b : Str) : (a ++ b).cps.toList = a.cps.toList ++ b.cps.toList := by
  show (a.cps ++ b.cps).toList = _
  simp
theorem cut_to (z : Str) (k : Nat) : (cutS z none (some (k : Int))).cps.toList = z.cps.toList.take k := by
  unfold cutS
  rw [HT.sIx_none, HT.sIx_nat, str_len]
  simp
theorem cut_from (z : Str) (k : Nat) : (cutS z (some (k : Int)) none).cps.toList = z.cps.toList.drop k := by
  unfold cutS
  rw [HT.sIx_none, HT.sIx_nat, str_len]
  by_cases h : k ≤ z.cps.toList.length
  · rw [Nat.min_eq_left h]
    exact List.take_of_length_le (by rw [List.length_drop]; exact Nat.le_refl _)
  · rw [List.drop_eq_nil_of_le (by omega : z.cps.toList.length ≤ k), List.drop_eq_nil_of_le (by omega)]
    simp
def nameOf (wd : List Nat) (k : Nat) (c : Nat) : Str := ⟨(wd.take k ++ [c] ++ wd.drop (k + 1)).toArray⟩
theorem nameOf_eq {z : Str} {wd : List Nat} {k : Nat} {c : Nat} (hz : z.cps.toList = wd) : (cutS z none (some (k : Int)) ++ (⟨#[c]⟩ : Str)) ++ cutS z (some ((k : Int) + 1)) none = nameOf wd k c := by
  apply str_ext
  have e : ((k : Int) + 1) = ((k + 1 : Nat) : Int) := by omega
  rw [cat_list, cat_list, cut_to, e, cut_from, hz]
  unfold nameOf
  simp
theorem nameOf_ok {wd : List Nat} {k c : Nat} (h1 : 1 ≤ wd.length) (h8 : wd.length ≤ 8) (hk : k < wd.length) (hw : ∀ c, c ∈ wd → 97 ≤ c ∧ c ≤ 122) (hc : 97 ≤ c ∧ c ≤ 122) : nmOk (nameOf wd k c) := by
  have e : (nameOf wd k c).cps.toList = wd.take k ++ [c] ++ wd.drop (k + 1) := by unfold nameOf; simp
  have el : (nameOf wd k c).length = wd.length := by
    rw [str_len, e, List.length_append, List.length_append, List.length_take, List.length_drop, List.length_singleton]
    omega
  refine ⟨by omega, by omega, fun d hd => ?_⟩
  rw [e] at hd
  rcases List.mem_append.mp hd with hd | hd
  · rcases List.mem_append.mp hd with hd | hd
    · exact hw d (List.mem_of_mem_take hd)
    · rw [List.mem_singleton.mp hd]
      exact hc
  · exact hw d (List.mem_of_mem_drop hd)
theorem nameOf_inj {wd : List Nat} {k c d : Nat} (h : nameOf wd k c = nameOf wd k d) : c = d := by
  unfold nameOf at h
  have h' := congrArg (fun z : Str => z.cps.toList) h
  simp at h'
  exact h'
theorem nodup_map_of {α β : Type} {f : α → β} : ∀ {l : List α}, l.Nodup → (∀ a, a ∈ l → ∀ b, b ∈ l → f a = f b → a = b) → (l.map f).Nodup
  | [], _, _ => List.nodup_nil
  | x :: r, h, k => by
    rw [List.nodup_cons] at h
    rw [List.map_cons, List.nodup_cons]
    refine ⟨fun m => ?_, nodup_map_of h.2 fun a ha b hb => k a (List.mem_cons_of_mem _ ha) b (List.mem_cons_of_mem _ hb)⟩
    obtain ⟨y, hy, e⟩ := List.mem_map.mp m
    have := k y (List.mem_cons_of_mem _ hy) x List.mem_cons_self e
    exact h.1 (this ▸ hy)
/-- the names drawn from a word -/
def namesOf (wd : List Nat) (k fi b m : Nat) : List Str := (List.range m).map fun j => nameOf wd k (97 + (fi + b * j) % 26)
theorem namesOf_len (wd : List Nat) (k fi b m : Nat) : (namesOf wd k fi b m).length = m := by
  unfold namesOf
  rw [List.length_map, List.length_range]
theorem namesOf_ok {wd : List Nat} {k fi b m : Nat} (h1 : 1 ≤ wd.length) (h8 : wd.length ≤ 8) (hk : k < wd.length) (hw : ∀ c, c ∈ wd → 97 ≤ c ∧ c ≤ 122) : ∀ x, x ∈ namesOf wd k fi b m → nmOk x := fun x hx => by
  obtain ⟨j, _, rfl⟩ := List.mem_map.mp hx
  exact nameOf_ok h1 h8 hk hw ⟨by omega, by omega⟩
theorem namesOf_nodup {wd : List Nat} {k fi b m : Nat} (hm : m ≤ 26) (hb : b = 1 ∨ b = 3 ∨ b = 5 ∨ b = 7 ∨ b = 9 ∨ b = 11) : (namesOf wd k fi b m).Nodup := by
  refine nodup_map_of List.nodup_range fun i hi j hj e => ?_
  have e' := nameOf_inj e
  have hi' := List.mem_range.mp hi
  have hj' := List.mem_range.mp hj
  rcases hb with rfl | rfl | rfl | rfl | rfl | rfl <;> omega
/-! ### lists as data -/
theorem eqv_nil (xs : List PyData) : PyData.eqv (.list xs) (.list []) = xs.isEmpty := by
  rw [PyData.eqv]
  cases xs with
  | nil => rfl
  | cons x r => rfl
theorem nil_shaped : SeqAt.shaped (.list []) = true := by decide +kernel
theorem strs_shaped {xs : List Str} (h : ∀ x, x ∈ xs → nmOk x) : SeqAt.shaped (.list (xs.map .str)) = true := by
  have e : (PyData.list (xs.map .str)).depth = PyData.depthAll (xs.map .str) + 1 := by simp only [PyData.depth]
  have e2 : (PyData.list (xs.map .str)).canLay0 = PyData.canLayAll0 (xs.map .str) := by rw [PyData.canLay0]
  have h1 : PyData.depthAll (xs.map .str) ≤ 0 := depthAll_le fun d m => by
    obtain ⟨x, _, rfl⟩ := List.mem_map.mp m
    rw [depth_str]
    exact Nat.le_refl _
  have h2 : PyData.canLayAll0 (xs.map .str) = true := layAll_iff.mpr fun d m => by
    obtain ⟨x, hx, rfl⟩ := List.mem_map.mp m
    rw [lay_str]
    exact (h x hx).strOk
  unfold SeqAt.shaped
  rw [e2, h2, Bool.true_and]
  exact decide_eq_true (by omega)
def wD (f : Str × Int) : PyData := .tuple [.str f.1, .int f.2]
theorem wds_shaped {W : List (Str × Int)} (h : ∀ f, f ∈ W → nmOk f.1) : SeqAt.shaped (.list (W.map wD)) = true := by
  have e : (PyData.list (W.map wD)).depth = PyData.depthAll (W.map wD) + 1 := by simp only [PyData.depth]
  have e2 : (PyData.list (W.map wD)).canLay0 = PyData.canLayAll0 (W.map wD) := by rw [PyData.canLay0]
  have h1 : PyData.depthAll (W.map wD) ≤ 1 := depthAll_le fun d m => by
    obtain ⟨x, _, rfl⟩ := List.mem_map.mp m
    show (PyData.tuple [.str x.1, .int x.2]).depth ≤ 1
    simp only [PyData.depth, PyData.depthAll]
    omega
  have h2 : PyData.canLayAll0 (W.map wD) = true := layAll_iff.mpr fun d m => by
    obtain ⟨x, hx, rfl⟩ := List.mem_map.mp m
    show (PyData.tuple [.str x.1, .int x.2]).canLay0 = true
    rw [lay_tup, lay_cons, lay_cons, lay_nil, lay_str, (h x hx).strOk]
    simp only [PyData.canLay0]
    rfl
  unfold SeqAt.shaped
  rw [e2, h2, Bool.true_and]
  exact decide_eq_true (by omega)
theorem wds_fz : ∀ W : List (Str × Int), fzAll (W.map wD) = true
  | [] => rfl
  | _ :: r => by
    show (true && fzAll (r.map wD)) = true
    rw [wds_fz r]
    rfl
theorem strs_fz : ∀ xs : List Str, fzAll (xs.map .str) = true
  | [] => rfl
  | _ :: r => by
    show (true && fzAll (r.map .str)) = true
    rw [strs_fz r]
    rfl
end Lz

set_option Elab.async false
set_option linter.all false
set_option maxRecDepth 100000
set_option maxHeartbeats 4000000
/-! The rules by a written part that is named: so they serve within a comprehension too. -/
namespace Lz
open PySem PySem.Spec PyProof.Rows L2
section
variable {X : Cx} {K : PySem.W.Frag}
theorem ix_listK (h : X.K = K) : IxR X (rIxL K) := by subst h; exact ix_list
theorem ix_tupK (h : X.K = K) : IxR X (rIxT K) := by subst h; exact ix_tup
theorem sl_listK (h : X.K = K) : SlR X (rSlL K) := by subst h; exact sl_list
theorem sl_tupAK (h : X.K = K) : SlR X (rSlA K) := by subst h; exact sl_tupA
theorem op_eqDK (h : X.K = K) (hu : X.A.units + 64 < cLine) : OpR X (compareOp .Eq) (rEqD K) := by subst h; exact op_eqD hu
theorem op_neDK (h : X.K = K) (hu : X.A.units + 64 < cLine) : OpR X (compareOp .NotEq) (rNeD K) := by subst h; exact op_neD hu
theorem op_catAK (h : X.K = K) : OpR X (binaryOp .Add) (rCatA K) := by subst h; exact op_catA
theorem op_inK (h : X.K = K) : OpR X (compareOp .In) (rIn K false) := by subst h; exact op_in_seq
theorem op_notInK (h : X.K = K) : OpR X (compareOp .NotIn) (rIn K true) := by subst h; exact op_notIn_seq
def rLenS (K : PySem.W.Frag) : List V → Hp → VK → Prop := fun xs H Q => ∃ p ys, xs = [.ref p] ∧ (SqL K H p ys ∨ SqT K H p ys) ∧ Q (.int ys.length) H
theorem call_lenK (h : X.K = K) : CallR X (.builtin "len") (rLenS K) := by subst h; exact call_len_seq
def rListOf (K : PySem.W.Frag) : List V → Hp → VK → Prop := fun xs H Q => ∃ p ys, xs = [.ref p] ∧ (SqL K H p ys ∨ SqT K H p ys) ∧ ∀ l, H l = none → Q (.ref l) (upd H l (.lst ys))
theorem call_listK (h : X.K = K) : CallR X (.type "list") (rListOf K) := by subst h; exact call_list_of
def rTupOf (K : PySem.W.Frag) : List V → Hp → VK → Prop := fun xs H Q => ∃ p ys, xs = [.ref p] ∧ ((SqL K H p ys ∧ ∀ l, H l = none → Q (.ref l) (upd H l (.tup ys))) ∨ (SqT K H p ys ∧ Q (.ref p) H))
theorem call_tupleK (h : X.K = K) : CallR X (.type "tuple") (rTupOf K) := by subst h; exact call_tuple_of
theorem call_isK (h : X.K = K) : CallR X (.builtin "isinstance") (rIsi K) := by subst h; exact call_isi
theorem call_sumK (h : X.K = K) (hc : X.calm = true) : CallR X (.builtin "sum") (rSum K) := by subst h; exact cr_sum hc
theorem call_maxK (h : X.K = K) (hc : X.calm = true) : CallR X (.builtin "max") (rMax K) := by subst h; exact cr_max hc
theorem call_allK (h : X.K = K) (hc : X.calm = true) : CallR X (.builtin "all") (rAll K) := by subst h; exact cr_all hc
def tTruK (K : PySem.W.Frag) (ta : TE) : TT := fun σ H Q => ta σ H fun x H' => ∃ k, TruV K x H' k ∧ Q k H'
theorem pt_truthK {a : Expr} {ta : TE} (h : X.K = K) (ha : PE X a ta) (he : ∀ whole, isTrue a X.env whole = (do let v ← whole; standAt a.pos; holding [v] (truthy v))) : PT X a (tTruK K ta) := by subst h; exact pt_truth ha he
theorem pe_bm0K {T id : String} {name : Str} {r : V → List V → Hp → VK → Prop} {o : Expr} {to : TE} {apos cpos : Pos} (h : X.K = K) (pa : PlainAttrs T) (slot : Slot T name id) (hty : typeOf (.builtin id) = pure (.type "method_descriptor")) (hm : MtR X id r) (ho : PE X o to)
    (hbase : attributeBase o name X.env (eval o X.env) = eval o X.env := by rfl) (hline : (apos.endLine == cpos.line) = true := by rfl) : PE X (.Call (.Attribute o name apos) [] [] cpos) (tBM0 K T r to) := by
  subst h
  exact pe_bm0 pa slot hty hm ho hbase hline
theorem pe_bmK {T id : String} {name : Str} {r : V → List V → Hp → VK → Prop} {o e : Expr} {es : List Expr} {to : TE} {t : TA} {apos cpos : Pos} (h : X.K = K) (pa : PlainAttrs T) (slot : Slot T name id) (hty : typeOf (.builtin id) = pure (.type "method_descriptor")) (hm : MtR X id r) (ho : PE X o to) (ha : PA X (e :: es) t)
    (hbase : attributeBase o name X.env (eval o X.env) = eval o X.env := by rfl)
    (hfew : ((backTo cpos (starEach (e :: es) X.env)).all (fun x => !x.1) && (backToKw cpos (keywordEach [] X.env)).all (fun x => x.1.isSome)
      && decide ((e :: es).length + ([] : List Keyword).length + (if ([] : List Keyword).isEmpty then 0 else 1) < 30)) = true := by rfl)
    (hline : (apos.endLine == cpos.line) = true := by rfl) (hs : starEach (e :: es) X.env = (false, eval e X.env) :: starEach es X.env := by rfl) (hplain : (backTo cpos (starEach es X.env)).any (·.1) = false := by rfl) :
    PE X (.Call (.Attribute o name apos) (e :: es) [] cpos) (tBM K T r to t) := by
  subst h
  exact pe_bm pa slot hty hm ho ha hbase hfew hline hs hplain
theorem pi_listK {tg l : Expr} {tl : TE} (h : X.K = K) (hl : PE X l tl) : PI X tg l (iList K tl) := by subst h; exact pi_list hl
theorem pi_tupK {tg l : Expr} {tl : TE} (h : X.K = K) (hl : PE X l tl) : PI X tg l (iTup K tl) := by subst h; exact pi_tup hl
theorem pg_tupK {es : List Expr} {k : Nat} {t : TGs} {n : Nat} {pos : Pos} (h : X.K = K) (hc : X.calm = true) (hs : PGs X es t)
    (hn : (assignEach es X.env).length = n := by rfl) (hst : (assignEach es X.env).findIdx? (·.1) = none := by rfl) : PG X (.Tuple es k pos) (gTup K n t) := by subst h; exact pg_tup hc hs hn hst
/-- max(l, default=d) of whole numbers -/
def rMaxDef (K : PySem.W.Frag) : List V → List V → Hp → VK → Prop := fun xs zs H Q => ∃ (a : Addr) (ns : List Int) (d : Int), xs = [.ref a] ∧ zs = [.int d] ∧ SqL K H a (ns.map V.int) ∧ (ns = [] → Q (.int d) H) ∧ ∀ m, m ∈ ns → (∀ y, y ∈ ns → y ≤ m) → Q (.int m) H
theorem maxOf_facts : ∀ (ys : List Int) (y : Int), PySem.W.maxOf y ys ∈ y :: ys ∧ ∀ z, z ∈ y :: ys → z ≤ PySem.W.maxOf y ys
  | [], y => ⟨List.mem_cons_self, fun z m => by rw [List.mem_singleton.mp m]; exact Int.le_refl _⟩
  | x :: r, y => by
    have e : PySem.W.maxOf y (x :: r) = PySem.W.maxOf (if y < x then x else y) r := by
      show List.foldl _ (if decide (y < x) = true then x else y) r = _
      by_cases h : y < x
      · rw [if_pos (decide_eq_true h), if_pos h]
        rfl
      · rw [if_neg (fun q => h (of_decide_eq_true q)), if_neg h]
        rfl
    obtain ⟨h1, h2⟩ := maxOf_facts r (if y < x then x else y)
    rw [e]
    have h3 := h2 _ List.mem_cons_self
    generalize PySem.W.maxOf (if y < x then x else y) r = M at h1 h2 h3 ⊢
    refine ⟨?_, fun z m => ?_⟩
    · rcases List.mem_cons.mp h1 with q | q
      · rw [q]
        split
        · exact List.mem_cons_of_mem _ List.mem_cons_self
        · exact List.mem_cons_self
      · exact List.mem_cons_of_mem _ (List.mem_cons_of_mem _ q)
    · rcases List.mem_cons.mp m with q | m
      · rw [q]
        split at h3 <;> omega
      · rcases List.mem_cons.mp m with q | m
        · rw [q]
          split at h3 <;> omega
        · exact h2 z (List.mem_cons_of_mem _ m)
theorem reads_ints {h : Heap} : ∀ {ns : List Int} {us : List Value}, Vals (ns.map V.int) us → ∃ as, ReadsAll h us (ns.map PyData.int) as
  | [], _, r => by cases r; exact ⟨_, .nil⟩
  | n :: ns, _, r => by
    cases r with
    | cons r1 r2 =>
      obtain ⟨t, rfl⟩ := r1
      obtain ⟨as, q⟩ := reads_ints r2
      exact ⟨_, .cons (.int n t) q⟩
theorem cr_maxDef (hc : X.calm = true) (hu : X.A.units + 64 < cLine) : CallRK X (.builtin "max") [Str.ofString "default"] (rMaxDef X.K) := by
  intro pins s σ H xs zs us ws Q I rx rz h
  obtain ⟨a, ns, d, rfl, rfl, hs, h0, h1⟩ := h
  obtain ⟨its, rv, hl, _⟩ := I.list hs
  rw [Vals.ref1 rx]
  cases rz with
  | cons r1 r2 =>
    cases r2
    obtain ⟨t, rfl⟩ := r1
    refine PySem.W.max_list_datum_default (α := Int) (xs := ns) (I.ok.hd hc) hl.isList (reads_ints rv) (by show X.A.units + 1 + 0 < cLine; omega) (fun e h' tk hk => ⟨.int d, H, I.kept hk, ⟨_, rfl⟩, h0 e⟩) fun y ys i v h' tk e hi hh hk => ?_
    obtain ⟨as, hr⟩ := hh
    obtain ⟨f1, f2⟩ := maxOf_facts ys y
    have hv : ∃ t, v = Value.int (PySem.W.maxOf y ys) t := by
      generalize PySem.W.maxOf y ys = m at hr
      have hr' : Reads h' v (.int m) as := hr
      cases hr'
      exact ⟨_, rfl⟩
    obtain ⟨t', rfl⟩ := hv
    exact ⟨.int _, H, I.kept hk, ⟨_, rfl⟩, h1 _ (by rw [e]; exact f1) (by rw [e]; exact f2)⟩
theorem call_maxDefK (h : X.K = K) (hc : X.calm = true) (hu : X.A.units + 64 < cLine) : CallRK X (.builtin "max") [Str.ofString "default"] (rMaxDef K) := by subst h; exact cr_maxDef hc hu
theorem op_in_kdK {d : Addr} {es : Array DictEntry} {n : Nat} (h : X.K = K) (D : KDict X.K X.w d es n) : OpR X (compareOp .In) (fun x y H Q => ∃ (z : Str) (r : Option Value), x = .str z ∧ y = .ref d ∧ PySem.W.nsIn K d z = some r ∧ Q (.bl r.isSome) H) := by subst h; exact op_in_kd D
theorem pi_enumK {e : Expr} {ta : TA} {p pos tpos : Pos} {elts : List Expr} {kk : Nat} (h : X.K = K) (hg : Gl X "enumerate") (hm : X.mg "enumerate" = none) (ha : PA X [e] ta) (hs : starEach [e] X.env = [(false, eval e X.env)] := by rfl) :
    PI X (.Tuple elts kk tpos) (.Call (.Name "enumerate" p) [e] [] pos) (iEnum K ta) := by subst h; exact pi_enum hg hm ha hs
theorem mt_indexK (h : X.K = K) : MtR X "list.index" (rIndex K) := by subst h; exact mt_index
end
end Lz
namespace StX
open PySem L2
theorem pa_starK {X : Cx} {K : PySem.W.Frag} {e : Expr} {es : List Expr} {p : Pos} {te : TE} {t : TA} (h : X.K = K) (he : PE X e te) (hr : PA X es t) (hs : starEach (.Starred e p :: es) X.env = (true, eval e X.env) :: starEach es X.env := by rfl) : PA X (.Starred e p :: es) (tStar K te t) := by subst h; exact pa_star he hr hs
end StX

set_option Elab.async false
set_option linter.all false
set_option maxRecDepth 100000
set_option maxHeartbeats 4000000
namespace Lz
open PySem PySem.Spec PyProof.Rows L2
def topS (i : Nat) : Stmt := PySem.Challenge.pw_lazywebs_k16_nodes_seen.main.body.getD i (.Pass ⟨0, 0, 0, 0⟩)
/-- the built-ins are still there -/
structure Bt (mg : Str → Option Value) : Prop where
  len : mg "len" = none
  max : mg "max" = none
  min : mg "min" = none
  abs : mg "abs" = none
  range : mg "range" = none
  int : mg "int" = none
  list : mg "list" = none
  tuple : mg "tuple" = none
  sum : mg "sum" = none
  isinstance : mg "isinstance" = none

/-- a pen at p, its cells at a -/
def PenAt (H : Hp) (p a : Addr) : Prop := ∃ (ns : List Int) (t q : Int), H p = some (.lst [.ref a, .int t, .int q]) ∧ H a = some (.lst (ns.map V.int)) ∧ ns.length ≤ 63 ∧ 0 ≤ t ∧ 0 ≤ q
theorem PenAt.ne {H : Hp} {p a : Addr} (h : PenAt H p a) : a ≠ p := by
  obtain ⟨ns, t, q, h1, h2, _⟩ := h
  refine ne_of h2 h1 fun e => ?_
  have e' := HO.lst.inj e
  cases ns with
  | nil => cases e'
  | cons x r => cases e'
theorem PenAt.keep {S : List Addr} {H H' : Hp} {p a : Addr} (h : PenAt H p a) (k : Kp S H H') (hp : ¬ p ∈ S) (ha : ¬ a ∈ S) : PenAt H' p a := by
  obtain ⟨ns, t, q, h1, h2, h3⟩ := h
  exact ⟨ns, t, q, k.lst h1 hp, k.lst h2 ha, h3⟩
theorem PenAt.mut {H : Hp} {p a D : Addr} {o : HO} (h : PenAt H p a) (hp : D ≠ p) (ha : D ≠ a) : PenAt (upd H D o) p a := by
  obtain ⟨ns, t, q, h1, h2, h3⟩ := h
  exact ⟨ns, t, q, by rw [upd_ne hp.symm]; exact h1, by rw [upd_ne ha.symm]; exact h2, h3⟩
theorem PenAt.new {H : Hp} {p a D : Addr} {o : HO} (h : PenAt H p a) (hD : H D = none) : PenAt (upd H D o) p a := h.keep (S := []) (Kp.new hD) (fun h => nomatch h) (fun h => nomatch h)
theorem PenAt.apart {H : Hp} {p a D : Addr} (h : PenAt H p a) (hD : H D = none) : D ≠ p ∧ D ≠ a := by
  obtain ⟨ns, t, q, h1, h2, h3⟩ := h
  exact ⟨(ne_of_none h1 hD).symm, (ne_of_none h2 hD).symm⟩
theorem not1 {p D : Addr} (h : D ≠ p) : ¬ D ∈ [p] := fun m => h (List.mem_singleton.mp m)
theorem cal_mk {P : Program} {w : World} {K : PySem.W.Frag} {mg : Str → Option Value} {base : Heap} {k : Nat} {x : Str} {st : Stmt} {f : Addr} {fd : FuncData} {ps : List Str} {sp : Sp} (F : Fun K x x st f fd) (G : FnOk P w K mg base CX0 k f fd ps sp) (m : mg x = some (.ref f)) (b : Binds K fd ps []) : C8.Cal P w K mg base k x sp [] :=
  ⟨⟨f, fd, ps, [], G, m, F.kp, b, .nil⟩⟩
def spDraw (K : PySem.W.Frag) : Sp := fun vs H Q _ => ∃ (p a : Addr) (m : Int), vs = [.ref p, .int m] ∧ PenAt H p a ∧ 1 ≤ m ∧ m.natAbs < 2 ^ 250 ∧
  ∀ r H', Kp [p] H H' → PenAt H' p a → 0 ≤ r → r < m → Q (.int r) H'
section
variable {P : Program} {w : World} {K : PySem.W.Frag} {mg : Str → Option Value} {base : Heap} {f : Addr} {fd : FuncData}
abbrev sLDraw : Stmt := topS 16
theorem scLDraw : FnScope ["_law_pen_here", "_law_many_here", "_law_digit", "_law_at", "_law_cell", "_law_prime", "_law_number_here"] ["_law_pen_here", "_law_many_here"] (defScope sLDraw) := ⟨rfl, rfl, rfl, by decide +kernel, rfl, by decide +kernel, by decide +kernel⟩
theorem pen_put {H : Hp} {p a : Addr} {ns : List Int} {t q t' q' : Int} (h1 : H p = some (.lst [.ref a, .int t, .int q])) (h2 : H a = some (.lst (ns.map V.int))) (h3 : ns.length ≤ 63) (ht : 0 ≤ t') (hq : 0 ≤ q') : PenAt (upd H p (.lst [.ref a, .int t', .int q'])) p a := by
  have na : a ≠ p := ne_of h2 h1 fun e => by
    have e' := HO.lst.inj e
    cases ns with
    | nil => cases e'
    | cons x r => cases e'
  exact ⟨ns, t', q', upd_same, by rw [upd_ne na]; exact h2, h3, ht, hq⟩
theorem ok_draw (F : Fun K "_law_draw" "_law_draw" sLDraw f fd) (B : Bt mg) : FnOk P w K mg base CX0 1 f fd ["_law_pen_here", "_law_many_here"] (spDraw K) := by
  have ml := B.len
  have mmax := B.max
  have mabs := B.abs
  refine F.ok scLDraw (fun vs H Q E h => ?_) (fun cdv A outer s H vs Q E hr h => ?_)
  · obtain ⟨p, a, m, rfl, _⟩ := h
    rfl
  obtain ⟨p, a, m, rfl, hpen, hm1, hm2, k⟩ := h
  obtain ⟨ns, t, q, h1, h2, h3, ht, hq⟩ := id hpen
  have hpos : (0 : Int) < m := by omega
  have hw : CDivW q m := wide_div hpos hm2 (by decide) (by decide)
  refine ⟨_, (pss_cons (ps_if (pt_cmpR op_gt (pe_ix (ix_listK (K := K) rfl) (pv 0) pe_int (fun _ _ => rfl)) pe_int (nomark _)) (pss_cons (ps_set (i := 2) scLDraw.nd rfl (.inl rfl) (pe_op op_mod (pe_ix (ix_listK (K := K) rfl) (pv 0) pe_int (fun _ _ => rfl)) (pv 1)))
    (pss_cons (ps_asg (pe_op op_fdivW (pe_ix (ix_listK (K := K) rfl) (pv 0) pe_int (fun _ _ => rfl)) (pv 1)) (pg_sub (pv 0) pe_int set_list))
    (pss_one (ps_ret (pv 2))))) pss_nil)
    (pss_cons (ps_set (i := 3) scLDraw.nd rfl (.inl rfl) (pe_ix (ix_listK (K := K) rfl) (pv 0) pe_int (fun _ _ => rfl)))
    (pss_cons (ps_asg (pe_op op_add (pv 3) pe_int) (pg_sub (pv 0) pe_int set_list))
    (pss_cons (ps_set (i := 4) scLDraw.nd rfl (.inl rfl) (pe_ix (ix_listK (K := K) rfl) (pe_op op_cat (pe_ix (ix_listK (K := K) rfl) (pv 0) pe_int (fun _ _ => rfl)) (pe_lst (pa_cons pe_int pa_nil))) (pe_op op_mod (pv 3) (pe_callB (call_max2 rfl) (by rfl) mmax (by decide +kernel) (pa_cons pe_int (pa_cons (pe_callB (call_lenK (K := K) rfl) (by rfl) ml PySem.boot_len (pa_cons (pe_ix (ix_listK (K := K) rfl) (pv 0) pe_int (fun _ _ => rfl)) pa_nil)) pa_nil)))) (fun _ _ => rfl)))
    (C8.pss_cut (ps_if (PW.pt (pw_and (pt_cmpR op_lt (pv 3) (pe_callB (call_lenK (K := K) rfl) (by rfl) ml PySem.boot_len (pa_cons (pe_ix (ix_listK (K := K) rfl) (pv 0) pe_int (fun _ _ => rfl)) pa_nil)) (nomark _)) (pw_and1 (pt_cmpR op_ge (pe_callB call_abs (by rfl) mabs (by decide +kernel) (pa_cons (pv 4) pa_nil)) (pe_op op_pow pe_int pe_int) (nomark _))))) (pss_cons (ps_asg (pe_op op_fdivW (pe_callB call_abs (by rfl) mabs (by decide +kernel) (pa_cons (pv 4) pa_nil)) (pv 1)) (pg_sub (pv 0) pe_int set_list))
    (pss_one (ps_ret (pe_op op_mod (pe_callB call_abs (by rfl) mabs (by decide +kernel) (pa_cons (pv 4) pa_nil)) (pv 1))))) pss_nil)
    (pss_cons (ps_set (i := 5) scLDraw.nd rfl (.inl rfl) (pe_ix (ix_listK (K := K) rfl) (pe_lst (pa_cons pe_int (pa_cons pe_int (pa_cons pe_int (pa_cons pe_int (pa_cons pe_int (pa_cons pe_int (pa_cons pe_int pa_nil)))))))) (pe_op op_mod (pv 3) pe_int) (fun _ _ => rfl)))
    (pss_cons (ps_set (i := 6) scLDraw.nd rfl (.inl rfl) (pe_op op_mod (pe_op op_mul (pe_op op_add (pe_op op_add (pe_op op_mod (pv 4) pe_int) (pe_op op_mul pe_int (pv 3))) pe_int) pe_int) (pv 5)))
    (pss_cons (ps_set (i := 6) scLDraw.nd rfl (.inl rfl) (pe_op op_mod (pe_op op_add (pe_op op_add (pe_op op_mul (pv 6) (pv 6)) (pe_op op_mul pe_int (pv 6))) (pv 3)) pe_int))
    (pss_cons (ps_set (i := 6) scLDraw.nd rfl (.inl rfl) (pe_op op_mod (pe_op op_mul (pv 6) pe_int) pe_int))
    (C8.pss_cut (ps_if (pt_cmpR op_gt (pv 1) (pe_op op_pow pe_int pe_int) (nomark _)) (pss_one (ps_set (i := 6) scLDraw.nd rfl (.inl rfl) (pe_op op_pow (pv 6) pe_int))) pss_nil)
    (pss_one (ps_ret (pe_op op_mod (pe_op op_fdiv (pv 6) pe_int) (pv 1)))))))))))))), ?_⟩
  refine ⟨_, rfl, p, _, _, _, rfl, rfl, SqL.of h1, at_of (j := 2) rfl rfl, _, _, rfl, rfl, _, rfl, ?_⟩
  refine ite2 (fun c => ?_) (fun c => ?_)
  · refine ⟨_, rfl, p, _, _, _, rfl, rfl, SqL.of h1, at_of (j := 2) rfl rfl, _, rfl, _, _, rfl, rfl, hpos, ?_⟩
    refine ⟨_, rfl, p, _, _, _, rfl, rfl, SqL.of h1, at_of (j := 2) rfl rfl, _, rfl, _, _, rfl, rfl, hw, ?_⟩
    refine ⟨_, rfl, p, _, _, 2, rfl, rfl, h1, rfl, _, rfl, ?_⟩
    exact k _ _ (Kp.put h1 List.mem_cons_self) (pen_put h1 h2 h3 ht (Int.ediv_nonneg hq (by omega))) (Int.emod_nonneg _ (by omega)) (Int.emod_lt_of_pos _ hpos)
  · have na : a ≠ p := hpen.ne
    -- at = pen[1]; pen[1] = at + 1
    refine ⟨_, rfl, p, _, _, _, rfl, rfl, SqL.of h1, at_of (j := 1) rfl rfl, ?_⟩
    refine ⟨_, rfl, _, _, rfl, rfl, _, rfl, p, _, _, 1, rfl, rfl, h1, rfl, ?_⟩
    have hp1 : (upd H p (.lst [.ref a, .int (t + 1), .int q])) p = some (.lst [.ref a, .int (t + 1), .int q]) := upd_same
    have ha1 : (upd H p (.lst [.ref a, .int (t + 1), .int q])) a = some (.lst (ns.map V.int)) := by rw [upd_ne na]; exact h2
    have k1 : Kp [p] H (upd H p (.lst [.ref a, .int (t + 1), .int q])) := Kp.put h1 List.mem_cons_self
    show tSeq _ _ _ _ (upd H p (.lst [.ref a, .int (t + 1), .int q]))
    generalize upd H p (.lst [.ref a, .int (t + 1), .int q]) = H1 at hp1 ha1 k1
    -- cell
    refine ⟨_, rfl, p, _, _, _, rfl, rfl, SqL.of hp1, at_of (j := 0) rfl rfl, (by show 1 ≤ sizeLine; decide), fun l hl => ?_⟩
    have nla : a ≠ l := ne_of_none ha1 hl
    refine ⟨a, l, _, _, rfl, rfl, by rw [upd_ne nla]; exact ha1, upd_same, (by rw [List.length_map, List.length_singleton]; exact Nat.le_of_lt (small1000 (by omega))), fun l2 hl2 => ?_⟩
    have k2 : Kp [p] H1 (upd (upd H1 l (.lst [.int 7])) l2 (.lst (ns.map V.int ++ [.int 7]))) := (Kp.new hl).trans (Kp.new hl2)
    have hp2 : (upd (upd H1 l (.lst [.int 7])) l2 (.lst (ns.map V.int ++ [.int 7]))) p = some (.lst [.ref a, .int (t + 1), .int q]) := by
      have e1 : p ≠ l := ne_of_none hp1 hl
      have e2 : (upd H1 l (.lst [.int 7])) p = some (.lst [.ref a, .int (t + 1), .int q]) := by rw [upd_ne e1]; exact hp1
      rw [upd_ne (ne_of_none e2 hl2)]
      exact e2
    have ha2 : (upd (upd H1 l (.lst [.int 7])) l2 (.lst (ns.map V.int ++ [.int 7]))) a = some (.lst (ns.map V.int)) := by
      have e2 : (upd H1 l (.lst [.int 7])) a = some (.lst (ns.map V.int)) := by rw [upd_ne nla]; exact ha1
      rw [upd_ne (ne_of_none e2 hl2)]
      exact e2
    have hl3 : (upd (upd H1 l (.lst [.int 7])) l2 (.lst (ns.map V.int ++ [.int 7]))) l2 = some (.lst (ns.map V.int ++ [.int 7])) := upd_same
    show tOp _ _ _ _ (upd (upd H1 l (.lst [.int 7])) l2 (.lst (ns.map V.int ++ [.int 7]))) _
    generalize upd (upd H1 l (.lst [.int 7])) l2 (.lst (ns.map V.int ++ [.int 7])) = H2 at hp2 ha2 hl3 k2
    have hmx : (if (((ns.map V.int).length : Nat) : Int) > 1 then (((ns.map V.int).length : Nat) : Int) else 1) = max 1 (ns.length : Int) := by
      rw [List.length_map]
      omega
    refine ⟨_, rfl, _, rfl, p, _, _, _, rfl, rfl, SqL.of hp2, at_of (j := 0) rfl rfl, a, _, rfl, .inl (SqL.of ha2), _, _, rfl, ?_⟩
    refine ⟨_, _, rfl, rfl, (by show (0 : Int) < (if (((ns.map V.int).length : Nat) : Int) > 1 then _ else 1); rw [hmx]; omega), ?_⟩
    show rIxL _ _ (V.int (t % (if (((ns.map V.int).length : Nat) : Int) > 1 then _ else 1))) _ _
    rw [hmx]
    have hj0 : 0 ≤ t % max 1 (ns.length : Int) := Int.emod_nonneg _ (by omega)
    have hj1 : t % max 1 (ns.length : Int) < max 1 (ns.length : Int) := Int.emod_lt_of_pos _ (by omega)
    obtain ⟨cell, hcell⟩ : ∃ z : Int, (ns ++ [7])[(t % max 1 (ns.length : Int)).toNat]? = some z := by
      have : (t % max 1 (ns.length : Int)).toNat < (ns ++ [7]).length := by
        rw [List.length_append, List.length_singleton]
        omega
      exact ⟨_, List.getElem?_eq_getElem this⟩
    have hcell' : (ns.map V.int ++ [V.int 7])[(t % max 1 (ns.length : Int)).toNat]? = some (.int cell) := by
      have e : ns.map V.int ++ [V.int 7] = (ns ++ [7]).map V.int := by rw [List.map_append]; rfl
      rw [e, List.getElem?_map, hcell]
      rfl
    refine ⟨l2, _, _, _, rfl, rfl, SqL.of hl3, at_of (j := (t % max 1 (ns.length : Int)).toNat) (by omega) hcell', ?_⟩
    have pen2 : PenAt H2 p a := ⟨ns, t + 1, q, hp2, ha2, h3, by omega, hq⟩
    have kk : Kp [p] H H2 := k1.trans k2
    -- the great cells
    refine ⟨fun σ' H' => σ' = [some (.ref p), some (.int m), none, some (.int t), some (.int cell), none, none] ∧ H' = H2, ?_, ?_⟩
    · refine ⟨_, rfl, _, rfl, p, _, _, _, rfl, rfl, SqL.of hp2, at_of (j := 0) rfl rfl, a, _, rfl, .inl (SqL.of ha2), _, _, rfl, rfl, _, rfl, ?_⟩
      refine ite2 (fun c1 => ?_) (fun c1 => ⟨rfl, rfl⟩)
      refine ⟨_, rfl, _, rfl, _, _, rfl, rfl, ⟨by decide, by decide, by decide⟩, _, _, rfl, rfl, _, rfl, ?_⟩
      refine ite2 (fun c2 => ?_) (fun c2 => ⟨rfl, rfl⟩)
      have hab : 0 ≤ (if cell < 0 then -cell else cell) := by split <;> omega
      refine ⟨_, rfl, _, rfl, _, rfl, _, _, rfl, rfl, wide_div hpos hm2 (by decide) (by decide), ?_⟩
      refine ⟨_, rfl, p, _, _, 2, rfl, rfl, hp2, rfl, _, rfl, _, rfl, _, rfl, _, _, rfl, rfl, hpos, ?_⟩
      exact k _ _ (kk.trans (Kp.put hp2 List.mem_cons_self)) (pen_put hp2 ha2 h3 (by omega) (Int.ediv_nonneg hab (by omega))) (Int.emod_nonneg _ (by omega)) (Int.emod_lt_of_pos _ hpos)
    · rintro _ H2 ⟨rfl, rfl⟩
      -- a prime
      refine ⟨by show 7 ≤ sizeLine; decide, fun l3 hl3' => ?_⟩
      have k3 : Kp [p] H2 (upd H2 l3 (.lst [.int 2147483647, .int 2147483629, .int 2147483587, .int 2147483579, .int 2147483563, .int 2147483549, .int 2147483543])) := Kp.new hl3'
      have pen3 : PenAt (upd H2 l3 (.lst [.int 2147483647, .int 2147483629, .int 2147483587, .int 2147483579, .int 2147483563, .int 2147483549, .int 2147483543])) p a := ⟨ns, t + 1, q, by rw [upd_ne (ne_of_none hp2 hl3')]; exact hp2, by rw [upd_ne (ne_of_none ha2 hl3')]; exact ha2, h3, by omega, hq⟩
      obtain ⟨pr, hpr, hpr0, hpr1⟩ : ∃ z : Int, ([.int 2147483647, .int 2147483629, .int 2147483587, .int 2147483579, .int 2147483563, .int 2147483549, .int 2147483543] : List V)[(t % 7).toNat]? = some (.int z) ∧ 0 < z ∧ z < 2 ^ 32 := by
        have h0 : (t % 7).toNat < 7 := by omega
        generalize (t % 7).toNat = j at h0
        match j, h0 with
        | 0, _ => exact ⟨_, rfl, by decide, by decide⟩
        | 1, _ => exact ⟨_, rfl, by decide, by decide⟩
        | 2, _ => exact ⟨_, rfl, by decide, by decide⟩
        | 3, _ => exact ⟨_, rfl, by decide, by decide⟩
        | 4, _ => exact ⟨_, rfl, by decide, by decide⟩
        | 5, _ => exact ⟨_, rfl, by decide, by decide⟩
        | 6, _ => exact ⟨_, rfl, by decide, by decide⟩
      refine ⟨_, rfl, _, _, rfl, rfl, (by show (0 : Int) < 7; decide), l3, _, _, _, rfl, rfl, SqL.of upd_same, at_of (j := (t % 7).toNat) (by show t % 7 = _; omega) hpr, ?_⟩
      -- the number
      refine ⟨_, rfl, _, _, rfl, rfl, (by show (0 : Int) < 2147483497; decide), _, rfl, _, _, rfl, rfl, .inl ⟨by decide, by decide⟩, _, _, rfl, rfl, _, _, rfl, rfl, _, _, rfl, rfl, .inr ⟨by decide, by decide⟩, _, rfl, _, _, rfl, rfl, hpr0, ?_⟩
      show tSeq _ _ _ [some (.ref p), some (.int m), none, some (.int t), some (.int cell), some (.int pr), some (.int ((cell % 2147483497 + 69621 * t + 13) * 48271 % pr))] _
      have n0 : 0 ≤ (cell % 2147483497 + 69621 * t + 13) * 48271 % pr := Int.emod_nonneg _ (by omega)
      have n1 : (cell % 2147483497 + 69621 * t + 13) * 48271 % pr < pr := Int.emod_lt_of_pos _ hpr0
      generalize (cell % 2147483497 + 69621 * t + 13) * 48271 % pr = nu at n0 n1
      refine ⟨_, rfl, _, rfl, _, _, rfl, rfl, .inl ⟨by omega, by omega⟩, _, rfl, _, _, rfl, rfl, .inl ⟨by decide, by decide⟩, _, _, rfl, rfl, _, rfl, _, _, rfl, rfl, _, _, rfl, rfl, (by show (0 : Int) < 2147483489; decide), ?_⟩
      show tSeq _ _ _ [some (.ref p), some (.int m), none, some (.int t), some (.int cell), some (.int pr), some (.int ((nu * nu + 40692 * nu + t) % 2147483489))] _
      generalize (nu * nu + 40692 * nu + t) % 2147483489 = nv
      refine ⟨_, rfl, _, _, rfl, rfl, .inr ⟨by decide, by decide⟩, _, _, rfl, rfl, (by show (0 : Int) < 2147483477; decide), ?_⟩
      show C8.tCut _ _ _ [some (.ref p), some (.int m), none, some (.int t), some (.int cell), some (.int pr), some (.int (nv * 16807 % 2147483477))] _
      have v0 : 0 ≤ nv * 16807 % 2147483477 := Int.emod_nonneg _ (by omega)
      have v1 : nv * 16807 % 2147483477 < 2147483477 := Int.emod_lt_of_pos _ (by omega)
      generalize nv * 16807 % 2147483477 = nw at v0 v1
      have kl := kk.trans k3
      generalize upd H2 l3 _ = H3 at pen3 kl ⊢
      refine ⟨fun σ' H' => (∃ z : Int, σ' = [some (.ref p), some (.int m), none, some (.int t), some (.int cell), some (.int pr), some (.int z)]) ∧ H' = H3, ?_, ?_⟩
      · refine ⟨_, rfl, _, _, rfl, rfl, ⟨by decide, by decide, by decide⟩, _, _, rfl, rfl, _, rfl, ?_⟩
        refine ite2 (fun c1 => ?_) (fun c1 => ⟨⟨_, rfl⟩, rfl⟩)
        exact ⟨_, rfl, _, _, rfl, rfl, ⟨by decide, by decide, (by omega)⟩, ⟨_, rfl⟩, rfl⟩
      · rintro _ H3 ⟨⟨z, rfl⟩, rfl⟩
        refine ⟨_, rfl, _, _, rfl, rfl, ⟨by decide, by decide⟩, _, rfl, _, _, rfl, rfl, hpos, ?_⟩
        exact k _ _ kl pen3 (Int.emod_nonneg _ (by omega)) (Int.emod_lt_of_pos _ hpos)
end
end Lz

set_option Elab.async false
set_option linter.all false
set_option maxRecDepth 100000
set_option maxHeartbeats 8000000
namespace Lz
open PySem PySem.Spec PyProof.Rows L2
/-- the kinds that PARTS_OF has -/
structure PO (K : PySem.W.Frag) (pd : Addr) : Prop where
  op : ∀ k n, (k, n) ∈ kinds → ∃ u, PySem.W.nsIn K pd k = some (some u)
  num : PySem.W.nsIn K pd "number" = some none
  nam : PySem.W.nsIn K pd "name" = some none
  fn : PySem.W.nsIn K pd "fun" = some none
def leafKind (k : Str) : Prop := k = "number" ∨ k = "name" ∨ k = "fun"
/-- a part as a tuple -/
theorem shape_of {K : PySem.W.Frag} {H : Hp} {v : V} {t : Lz.P} (h : Dp K H v t.data) (ok : t.ok) : ∃ a, v = .ref a ∧
    ((∃ k x, t.inn = [] ∧ leafKind k ∧ SqT K H a [.str k, x]) ∨ (∃ k vs as, t = .op k as ∧ SqT K H a (.str k :: vs) ∧ DpAll K H vs (P.datas as) ∧ (k, as.length) ∈ kinds) ∨
      ∃ nm as b r rs vb, t = .lt nm as b ∧ SqT K H a [.str "let", .ref r, vb] ∧ SqT K H r rs ∧ DpAll K H rs (List.zipWith rowD nm (P.datas as)) ∧ Dp K H vb b.data ∧ nm.length = as.length) := by
  cases t with
  | num i =>
    obtain ⟨a, xs, rfl, ht, hx⟩ := Dp.tup_of (ds := [.str "number", .int i]) h
    refine ⟨a, rfl, .inl ⟨"number", .int i, rfl, .inl rfl, ?_⟩⟩
    cases hx with
    | cons h1 h2 =>
      cases h1
      cases h2 with
      | cons h3 h4 =>
        cases h3
        cases h4
        exact ht
  | nam x =>
    obtain ⟨a, xs, rfl, ht, hx⟩ := Dp.tup_of (ds := [.str "name", .str x]) h
    refine ⟨a, rfl, .inl ⟨"name", .str x, rfl, .inr (.inl rfl), ?_⟩⟩
    cases hx with
    | cons h1 h2 =>
      cases h1
      cases h2 with
      | cons h3 h4 =>
        cases h3
        cases h4
        exact ht
  | fn x =>
    obtain ⟨a, xs, rfl, ht, hx⟩ := Dp.tup_of (ds := [.str "fun", .str x]) h
    refine ⟨a, rfl, .inl ⟨"fun", .str x, rfl, .inr (.inr rfl), ?_⟩⟩
    cases hx with
    | cons h1 h2 =>
      cases h1
      cases h2 with
      | cons h3 h4 =>
        cases h3
        cases h4
        exact ht
  | op k as =>
    obtain ⟨a, xs, rfl, ht, hx⟩ := Dp.tup_of (ds := .str k :: P.datas as) h
    cases hx with
    | cons h1 h2 =>
      cases h1
      exact ⟨a, rfl, .inr (.inl ⟨k, _, as, rfl, ht, h2, (show (k, as.length) ∈ kinds ∧ P.oks as from ok).1⟩)⟩
  | lt nm as b =>
    obtain ⟨a, xs, rfl, ht, hx⟩ := Dp.tup_of (ds := [.str "let", .tuple (List.zipWith rowD nm (P.datas as)), b.data]) h
    cases hx with
    | cons h1 h2 =>
      cases h1
      cases h2 with
      | cons h3 h4 =>
        obtain ⟨r, rs, rfl, hr, hrs⟩ := h3.tup_of
        cases h4 with
        | cons h5 h6 =>
          cases h6
          exact ⟨a, rfl, .inr (.inr ⟨nm, as, b, r, rs, _, rfl, ht, hr, hrs, h5, ok.1⟩)⟩
def spInn (K : PySem.W.Frag) : Sp := fun vs H Q _ => ∃ (v : V) (t : Lz.P), vs = [v] ∧ Dp K H v t.data ∧ t.ok ∧ t.many ≤ 1000 ∧ ∀ (l : Addr) (xs : List V) (H' : Hp), Kp [] H H' → H l = none → H' l = some (.lst xs) → DpAll K H' xs (P.datas t.inn) → Q (.ref l) H'
theorem flat_str (x : Str) : flatV (.str x) = true := rfl
theorem cut_tl (x : V) (xs : List V) : cutV (x :: xs) (some 1) none = xs := by
  unfold cutV
  rw [HT.sIx_none, show HT.sIx (x :: xs).length 0 (some 1) = min 1 (x :: xs).length from HT.sIx_nat _ _ 1]
  have e : min 1 (x :: xs).length = 1 := by rw [List.length_cons]; omega
  rw [e]
  exact List.take_of_length_le (by show xs.length ≤ (x :: xs).length - 1; rw [List.length_cons]; omega)
theorem not_whole (x : V) (xs : List V) : ¬ (HT.sIx (x :: xs).length 0 (some 1) = 0 ∧ HT.sIx (x :: xs).length (x :: xs).length none = (x :: xs).length) := fun h => by
  have e := h.1
  rw [show HT.sIx (x :: xs).length 0 (some 1) = min 1 (x :: xs).length from HT.sIx_nat _ _ 1, List.length_cons] at e
  omega
/-- the second things of rows are the parts -/
theorem row_at {K : PySem.W.Frag} {H : Hp} {rs : List V} {nm : List Str} {as : List Lz.P} {i : Nat} {v : V} (h : DpAll K H rs (List.zipWith rowD nm (P.datas as))) (hi : rs[i]? = some v) : ∃ (t : Addr) (x : Str) (u : V) (d : Lz.P), v = .ref t ∧ SqT K H t [.str x, u] ∧ as[i]? = some d ∧ Dp K H u d.data := by
  obtain ⟨e, he, hd⟩ := h.at hi
  rw [List.getElem?_zipWith] at he
  cases hx : nm[i]? with
  | none => rw [hx] at he; cases he
  | some x =>
    rw [hx, datas_map, List.getElem?_map] at he
    cases ha : as[i]? with
    | none => rw [ha] at he; cases he
    | some d =>
      rw [ha] at he
      obtain rfl : rowD x d.data = e := Option.some.inj he
      obtain ⟨t, xs, rfl, ht, hxs⟩ := Dp.tup_of (ds := [.str x, d.data]) hd
      cases hxs with
      | cons h1 h2 =>
        cases h1
        cases h2 with
        | cons h3 h4 =>
          cases h4
          exact ⟨t, x, _, d, rfl, ht, rfl, h3⟩
section
variable {P : Program} {w : World} {K : PySem.W.Frag} {mg : Str → Option Value} {base : Heap} {f : Addr} {fd : FuncData}
abbrev sWithin : Stmt := topS 4
theorem scWithin : FnScope ["part", "kind", "row"] ["part"] (defScope sWithin) := ⟨rfl, rfl, rfl, by decide +kernel, rfl, by decide +kernel, by decide +kernel⟩
theorem ok_within {pd : Addr} {es : Array DictEntry} {n : Nat} (F : Fun K "within" "within" sWithin f fd) (B : Bt mg) (mPO : mg "PARTS_OF" = some (.ref pd)) (DK : KDict K w pd es n) (O : PO K pd) : FnOk P w K mg base CX0 1 f fd ["part"] (spInn K) := by
  have mlist := B.list
  refine F.ok scWithin (fun vs H Q E h => ?_) (fun cdv A outer s H vs Q E hr h => ?_)
  · obtain ⟨v, t, rfl, _⟩ := h
    rfl
  obtain ⟨v, t, rfl, hd, hok, hmany, q⟩ := h
  refine ⟨_, (pss_cons (ps_set (i := 1) scWithin.nd rfl (.inl rfl) (pe_ix (ix_tupK (K := K) rfl) (pv 0) pe_int (fun _ _ => rfl)))
    (pss_cons (ps_if (pt_cmpR op_eq (pv 1) pe_str (nomark _)) (pss_one (ps_ret (pe_op op_cat (pe_lc (own := [("row", 2)]) rfl scWithin.nd (pi_tupK (K := K) rfl (pe_ix (ix_tupK (K := K) rfl) (pv 0) pe_int (fun _ _ => rfl))) (blkOk_by (N := ["part", "kind", "row"]) (sc := defScope sWithin) (by decide +kernel)) (fun _ _ _ _ _ => (pg_name (i := 2) scWithin.nd rfl (.inl rfl))) (fun _ _ _ _ _ => pts_nil) (fun _ _ _ _ _ => (pe_ix (ix_tupK (K := K) rfl) (pv 2) pe_int (fun _ _ => rfl)))) (pe_lst (pa_cons (pe_ix (ix_tupK (K := K) rfl) (pv 0) pe_int (fun _ _ => rfl)) pa_nil))))) pss_nil)
    (pss_cons (ps_if (pt_cmpR (op_in_kdK (K := K) rfl DK) (pv 1) (pe_glob (v := .ref pd) (by rfl) mPO rfl) rfl) (pss_one (ps_ret (pe_callTy (call_listK (K := K) rfl) (by rfl) mlist (by decide +kernel) (pa_cons (pe_slice (sl_tupAK (K := K) rfl) (pv 0) (po_some pe_int) po_none) pa_nil)))) pss_nil)
    (pss_one (ps_ret (pe_lst pa_nil)))))), ?_⟩
  obtain ⟨a, rfl, h | h | h⟩ := shape_of hd hok
  · obtain ⟨k, x, hi, hk, ht⟩ := h
    refine ⟨_, rfl, a, _, _, _, rfl, rfl, ht, at_of (j := 0) rfl rfl, ?_⟩
    refine ⟨_, rfl, rfl, _, rfl, ?_⟩
    refine ite2 (fun c => ?_) (fun _ => ?_)
    · have e : k = "let" := V.str.inj (of_decide_eq_true c)
      rcases hk with rfl | rfl | rfl <;> exact absurd e (by decide +kernel)
    have hn : PySem.W.nsIn K pd k = some none := by
      rcases hk with rfl | rfl | rfl
      · exact O.num
      · exact O.nam
      · exact O.fn
    refine ⟨_, rfl, k, _, rfl, rfl, hn, _, rfl, ?_⟩
    refine ⟨Nat.zero_le _, fun l hl => ?_⟩
    exact q l [] _ (Kp.new hl) hl upd_same (by rw [hi]; exact .nil)
  · obtain ⟨k, xs, as, rfl, ht, hx, hk⟩ := h
    have hp := kind_plain hk
    refine ⟨_, rfl, a, _, _, _, rfl, rfl, ht, at_of (j := 0) rfl rfl, ?_⟩
    refine ⟨_, rfl, rfl, _, rfl, ?_⟩
    refine ite2 (fun c => absurd (V.str.inj (of_decide_eq_true c)) hp.1) (fun _ => ?_)
    obtain ⟨u, hu⟩ := O.op k _ hk
    refine ⟨_, rfl, k, _, rfl, rfl, hu, _, rfl, ?_⟩
    refine ⟨_, rfl, _, rfl, a, _, rfl, ht, fun z => absurd z (not_whole _ _), fun _ t2 ht2 => ?_⟩
    refine ⟨t2, _, rfl, .inr (.inl (.inl upd_same)), fun l hl => ?_⟩
    rw [cut_tl]
    have k1 : Kp [] H (upd H t2 (.tup xs)) := Kp.new ht2
    have k2 : Kp [] (upd H t2 (.tup xs)) (upd (upd H t2 (.tup xs)) l (.lst xs)) := Kp.new (by rw [cut_tl] at hl; exact hl)
    exact q l xs _ (k1.trans k2) (k1.free (by rw [cut_tl] at hl; exact hl) (fun m => nomatch m)) upd_same (Dp.keepAll (k1.trans k2) _ _ (datas_fz _) hx)
  · obtain ⟨nm, as, b, r, rs, vb, rfl, ht, hrt, hrs, hb, hl⟩ := h
    refine ⟨_, rfl, a, _, _, _, rfl, rfl, ht, at_of (j := 0) rfl rfl, ?_⟩
    refine ⟨_, rfl, rfl, _, rfl, ?_⟩
    refine ite2 (fun _ => ?_) (fun c => absurd (decide_eq_true rfl) c)
    refine ⟨_, rfl, a, _, _, _, rfl, rfl, ht, at_of (j := 1) rfl rfl, r, rfl, ⟨_, hrt⟩, fun D hD => ?_⟩
    have hrl : rs.length = as.length := by rw [hrs.length, List.length_zipWith, datas_len]; omega
    have hlen : as.length ≤ 999 := by
      have h1 := len_manys as
      have h2 : 1 + (Lz.P.manys as + b.many) ≤ 1000 := hmany
      omega
    refine lc_tup (K := K) (a := r) (xs := rs) (fun i H' => Kp [] H H' ∧ ∃ xs, H' D = some (.lst xs) ∧ DpAll K H' xs (Lz.P.datas (as.take i)))
      ⟨Kp.new hD, [], upd_same, .nil⟩ (fun i H' _ ⟨k, _⟩ => k.sqT hrt) ?_ ?_
    · rintro i x H1 hi ⟨k1, xs, hxs, hdx⟩
      obtain ⟨t, nx, u, d, rfl, htt, had, hud⟩ := row_at (Dp.keepAll k1 _ _ rows_fz hrs) hi
      refine ⟨rfl, ?_⟩
      refine ⟨_, rfl, t, _, _, _, rfl, rfl, htt, at_of (j := 1) rfl rfl, xs, hxs, ?_, k1.mut hD, xs ++ [u], upd_same, ?_⟩
      · rw [hdx.length, datas_len, List.length_take]
        exact small1000 (by omega)
      · have kput : Kp [D] H1 (upd H1 D (.lst (xs ++ [u]))) := Kp.put hxs List.mem_cons_self
        rw [datas_map, List.take_add_one, had, List.map_append, ← datas_map]
        exact (Dp.keepAll kput _ _ (datas_fz _) hdx).append (.one (Dp.keep kput _ _ (data_fz _) hud))
    · rintro H1 ⟨k1, xs, hxs, hdx⟩
      rw [hrl, List.take_length] at hdx
      refine ⟨_, rfl, a, _, _, _, rfl, rfl, k1.sqT ht, at_of (j := 2) rfl rfl, (by show 1 ≤ sizeLine; decide), fun l2 hl2 => ?_⟩
      have k2 : Kp [] H1 (upd H1 l2 (.lst [vb])) := Kp.new hl2
      have hx2 : (upd H1 l2 (.lst [vb])) D = some (.lst xs) := by rw [upd_ne (ne_of_none hxs hl2)]; exact hxs
      refine ⟨D, l2, _, _, rfl, rfl, hx2, upd_same, ?_, fun l hl => ?_⟩
      · rw [hdx.length, datas_len, List.length_singleton]
        exact Nat.le_of_lt (small1000 (by omega))
      · have k3 := k2.trans (Kp.new (S := []) (o := .lst (xs ++ [vb])) hl)
        have e : Lz.P.datas (Lz.P.lt nm as b).inn = Lz.P.datas as ++ [b.data] := by
          show Lz.P.datas (as ++ [b]) = _
          rw [datas_map, datas_map, List.map_append]
          rfl
        refine q l _ _ (k1.trans k3) ((k1.trans k2).free hl (fun m => nomatch m)) upd_same ?_
        rw [e]
        exact (Dp.keepAll k3 _ _ (datas_fz _) hdx).append (.one (Dp.keep (k1.trans k3) _ _ (data_fz _) hb))
abbrev sLInner : Stmt := topS 28
theorem scLInner : FnScope ["_law_part_here", "_law_one", "_law_row"] ["_law_part_here"] (defScope sLInner) := ⟨rfl, rfl, rfl, by decide +kernel, rfl, by decide +kernel, by decide +kernel⟩
theorem ok_inner (F : Fun K "_law_inner" "_law_inner" sLInner f fd) : FnOk P w K mg base CX0 1 f fd ["_law_part_here"] (spInn K) := by
  refine F.ok scLInner (fun vs H Q E h => ?_) (fun cdv A outer s H vs Q E hr h => ?_)
  · obtain ⟨v, t, rfl, _⟩ := h
    rfl
  obtain ⟨v, t, rfl, hd, hok, hmany, q⟩ := h
  refine ⟨_, (pss_cons (ps_if (pt_cmpR (op_inK (K := K) rfl) (pe_ix (ix_tupK (K := K) rfl) (pv 0) pe_int (fun _ _ => rfl)) (pe_tup (pa_cons pe_str (pa_cons pe_str (pa_cons pe_str pa_nil)))) rfl) (pss_one (ps_ret (pe_lst pa_nil))) pss_nil)
    (pss_one (ps_ret (pe_ifExp (pt_cmpR op_eq (pe_ix (ix_tupK (K := K) rfl) (pv 0) pe_int (fun _ _ => rfl)) pe_str (nomark _)) (pe_op op_cat (pe_lc (own := [("_law_row", 2)]) rfl scLInner.nd (pi_tupK (K := K) rfl (pe_ix (ix_tupK (K := K) rfl) (pv 0) pe_int (fun _ _ => rfl))) (blkOk_by (N := ["_law_part_here", "_law_one", "_law_row"]) (sc := defScope sLInner) (by decide +kernel)) (fun _ _ _ _ _ => (pg_name (i := 2) scLInner.nd rfl (.inl rfl))) (fun _ _ _ _ _ => pts_nil) (fun _ _ _ _ _ => (pe_ix (ix_tupK (K := K) rfl) (pv 2) pe_int (fun _ _ => rfl)))) (pe_lst (pa_cons (pe_ix (ix_tupK (K := K) rfl) (pv 0) pe_int (fun _ _ => rfl)) pa_nil))) (pe_lc (own := [("_law_one", 1)]) rfl scLInner.nd (pi_tupK (K := K) rfl (pe_slice (sl_tupAK (K := K) rfl) (pv 0) (po_some pe_int) po_none)) (blkOk_by (N := ["_law_part_here", "_law_one", "_law_row"]) (sc := defScope sLInner) (by decide +kernel)) (fun _ _ _ _ _ => (pg_name (i := 1) scLInner.nd rfl (.inl rfl))) (fun _ _ _ _ _ => pts_nil) (fun _ _ _ _ _ => (pv 1))))))), ?_⟩
  obtain ⟨a, rfl, h | h | h⟩ := shape_of hd hok
  · obtain ⟨k, x, hi, hk, ht⟩ := h
    refine ⟨_, rfl, a, _, _, _, rfl, rfl, ht, at_of (j := 0) rfl rfl, (by show 3 ≤ sizeLine; decide), fun t1 ht1 => ?_⟩
    refine ⟨t1, _, rfl, .inr (.inl (.inl upd_same)), rfl, rfl, _, rfl, ?_⟩
    have e : inV (V.str k) [.str "number", .str "name", .str "fun"] = true := by
      rcases hk with rfl | rfl | rfl <;> decide +kernel
    refine ite2 (fun _ => ?_) (fun c => absurd e c)
    refine ⟨Nat.zero_le _, fun l hl => ?_⟩
    have k1 : Kp [] H (upd H t1 (.tup [.str "number", .str "name", .str "fun"])) := Kp.new ht1
    exact q l [] _ (k1.trans (Kp.new hl)) (k1.free hl (fun m => nomatch m)) upd_same (by rw [hi]; exact .nil)
  · obtain ⟨k, xs, as, rfl, ht, hx, hk⟩ := h
    have hp := kind_plain hk
    refine ⟨_, rfl, a, _, _, _, rfl, rfl, ht, at_of (j := 0) rfl rfl, (by show 3 ≤ sizeLine; decide), fun t1 ht1 => ?_⟩
    refine ⟨t1, _, rfl, .inr (.inl (.inl upd_same)), rfl, rfl, _, rfl, ?_⟩
    have e : inV (V.str k) [.str "number", .str "name", .str "fun"] = false := by
      have h0 : kinds.all (fun p => !inV (V.str p.1) [.str "number", .str "name", .str "fun"]) = true := by decide +kernel
      simpa using List.all_eq_true.mp h0 _ hk
    have k1 : Kp [] H (upd H t1 (.tup [.str "number", .str "name", .str "fun"])) := Kp.new ht1
    have ht' := k1.sqT ht
    have hx' := Dp.keepAll k1 _ _ (datas_fz _) hx
    generalize upd H t1 (.tup [.str "number", .str "name", .str "fun"]) = H1 at k1 ht' hx' ⊢
    refine ite2 (fun c => absurd (e.symm.trans c) Bool.false_ne_true) (fun _ => ?_)
    refine ⟨_, rfl, a, _, _, _, rfl, rfl, ht', at_of (j := 0) rfl rfl, rfl, _, rfl, ?_⟩
    refine ite2 (fun c => absurd (V.str.inj (of_decide_eq_true c)) hp.1) (fun _ => ?_)
    refine ⟨_, rfl, _, rfl, a, _, rfl, ht', fun z => absurd z (not_whole _ _), fun _ t2 ht2 => ?_⟩
    have k2 : Kp [] H1 (upd H1 t2 (.tup xs)) := Kp.new ht2
    rw [cut_tl]
    have ht2' : SqT K (upd H1 t2 (.tup xs)) t2 xs := .inl (.inl upd_same)
    have hx2 := Dp.keepAll k2 _ _ (datas_fz _) hx'
    have k2 := k1.trans k2
    generalize upd H1 t2 (.tup xs) = H2 at k2 ht2' hx2 ⊢
    have hxl : xs.length ≤ 3 := by
      rw [hx.length, datas_len]
      exact (arity_le hk).2
    refine ⟨t2, rfl, ⟨_, ht2'⟩, fun D hD => ?_⟩
    refine lc_tup (K := K) (a := t2) (xs := xs) (fun i H' => Kp [] H2 H' ∧ H' D = some (.lst (xs.take i)))
      ⟨Kp.new hD, upd_same⟩ (fun i H' _ ⟨k, _⟩ => k.sqT ht2') ?_ ?_
    · rintro i x H3 hi ⟨k3, h3⟩
      refine ⟨rfl, ?_⟩
      refine ⟨_, rfl, _, h3, ?_, k3.mut hD, ?_⟩
      · rw [List.length_take]
        exact small1000 (by omega)
      · rw [upd_same, List.take_add_one, hi]
        rfl
    · rintro H3 ⟨k3, h3⟩
      rw [List.take_length] at h3
      exact q D xs H3 (k2.trans k3) (k2.free hD (fun m => nomatch m)) h3 (Dp.keepAll k3 _ _ (datas_fz _) hx2)
  · obtain ⟨nm, as, b, r, rs, vb, rfl, ht, hrt, hrs, hb, hl⟩ := h
    refine ⟨_, rfl, a, _, _, _, rfl, rfl, ht, at_of (j := 0) rfl rfl, (by show 3 ≤ sizeLine; decide), fun t1 ht1 => ?_⟩
    refine ⟨t1, _, rfl, .inr (.inl (.inl upd_same)), rfl, rfl, _, rfl, ?_⟩
    have e : inV (V.str "let") [.str "number", .str "name", .str "fun"] = false := by decide +kernel
    have k0 : Kp [] H (upd H t1 (.tup [.str "number", .str "name", .str "fun"])) := Kp.new ht1
    have ht := k0.sqT ht
    have hrt := k0.sqT hrt
    have hrs := Dp.keepAll k0 _ _ rows_fz hrs
    have hb := Dp.keep k0 _ _ (data_fz _) hb
    generalize upd H t1 (.tup [.str "number", .str "name", .str "fun"]) = H0 at k0 ht hrt hrs hb ⊢
    refine ite2 (fun c => absurd (e.symm.trans c) Bool.false_ne_true) (fun _ => ?_)
    refine ⟨_, rfl, a, _, _, _, rfl, rfl, ht, at_of (j := 0) rfl rfl, rfl, _, rfl, ?_⟩
    refine ite2 (fun _ => ?_) (fun c => absurd (decide_eq_true rfl) c)
    refine ⟨_, rfl, a, _, _, _, rfl, rfl, ht, at_of (j := 1) rfl rfl, r, rfl, ⟨_, hrt⟩, fun D hD => ?_⟩
    have hrl : rs.length = as.length := by rw [hrs.length, List.length_zipWith, datas_len]; omega
    have hlen : as.length ≤ 999 := by
      have h1 := len_manys as
      have h2 : 1 + (Lz.P.manys as + b.many) ≤ 1000 := hmany
      omega
    refine lc_tup (K := K) (a := r) (xs := rs) (fun i H' => Kp [] H0 H' ∧ ∃ xs, H' D = some (.lst xs) ∧ DpAll K H' xs (Lz.P.datas (as.take i)))
      ⟨Kp.new hD, [], upd_same, .nil⟩ (fun i H' _ ⟨k, _⟩ => k.sqT hrt) ?_ ?_
    · rintro i x H1 hi ⟨k1, xs, hxs, hdx⟩
      obtain ⟨t, nx, u, d, rfl, htt, had, hud⟩ := row_at (Dp.keepAll k1 _ _ rows_fz hrs) hi
      refine ⟨rfl, ?_⟩
      refine ⟨_, rfl, t, _, _, _, rfl, rfl, htt, at_of (j := 1) rfl rfl, xs, hxs, ?_, k1.mut hD, xs ++ [u], upd_same, ?_⟩
      · rw [hdx.length, datas_len, List.length_take]
        exact small1000 (by omega)
      · have kput : Kp [D] H1 (upd H1 D (.lst (xs ++ [u]))) := Kp.put hxs List.mem_cons_self
        rw [datas_map, List.take_add_one, had, List.map_append, ← datas_map]
        exact (Dp.keepAll kput _ _ (datas_fz _) hdx).append (.one (Dp.keep kput _ _ (data_fz _) hud))
    · rintro H1 ⟨k1, xs, hxs, hdx⟩
      rw [hrl, List.take_length] at hdx
      refine ⟨_, rfl, a, _, _, _, rfl, rfl, k1.sqT ht, at_of (j := 2) rfl rfl, (by show 1 ≤ sizeLine; decide), fun l2 hl2 => ?_⟩
      have k2 : Kp [] H1 (upd H1 l2 (.lst [vb])) := Kp.new hl2
      have hx2 : (upd H1 l2 (.lst [vb])) D = some (.lst xs) := by rw [upd_ne (ne_of_none hxs hl2)]; exact hxs
      refine ⟨D, l2, _, _, rfl, rfl, hx2, upd_same, ?_, fun l hl => ?_⟩
      · rw [hdx.length, datas_len, List.length_singleton]
        exact Nat.le_of_lt (small1000 (by omega))
      · have k3 := k2.trans (Kp.new (S := []) (o := .lst (xs ++ [vb])) hl)
        have e : Lz.P.datas (Lz.P.lt nm as b).inn = Lz.P.datas as ++ [b.data] := by
          show Lz.P.datas (as ++ [b]) = _
          rw [datas_map, datas_map, List.map_append]
          rfl
        refine q l _ _ (k0.trans (k1.trans k3)) ((k0.trans (k1.trans k2)).free hl (fun m => nomatch m)) upd_same ?_
        rw [e]
        exact (Dp.keepAll k3 _ _ (datas_fz _) hdx).append (.one (Dp.keep (k1.trans k3) _ _ (data_fz _) hb))
end
end Lz

set_option Elab.async false
set_option linter.all false
set_option maxRecDepth 100000
set_option maxHeartbeats 4000000
/-! Bodies and programs as they are drawn: plain Lean. -/
namespace Lz
open PySem
/-- one thing handed on: the name itself, or what was drawn for it -/
def argOf (t : Str) (o a : P) : Prop := a = .nam t ∨ a = o
inductive Args : List Str → List P → List P → Prop
  | nil : Args [] [] []
  | snoc {ts : List Str} {os as : List P} {t : Str} {o a : P} : Args ts os as → argOf t o a → Args (ts ++ [t]) (os ++ [o]) (as ++ [a])
theorem Args.len {ts : List Str} {os as : List P} (h : Args ts os as) : as.length = ts.length ∧ os.length = ts.length := by
  induction h with
  | nil => exact ⟨rfl, rfl⟩
  | snoc _ _ ih =>
    rw [List.length_append, List.length_append, List.length_append, ih.1, ih.2]
    exact ⟨rfl, rfl⟩
theorem Args.many {ts : List Str} {os as : List P} (h : Args ts os as) : P.manys as ≤ P.manys os := by
  induction h with
  | nil => exact Nat.le_refl _
  | @snoc ts os as t o a _ ha ih =>
    rw [manys_append, manys_append]
    have h1 := many_pos o
    have e1 : P.manys [a] = a.many + 0 := rfl
    have e2 : P.manys [o] = o.many + 0 := rfl
    rcases ha with rfl | rfl
    · have : (P.nam t).many = 1 := rfl
      omega
    · omega
theorem Args.deep {ts : List Str} {os as : List P} (h : Args ts os as) : P.deeps as ≤ max 1 (P.deeps os) := by
  induction h with
  | nil => exact Nat.zero_le _
  | @snoc ts os as t o a _ ha ih =>
    rw [deeps_append, deeps_append]
    have e1 : P.deeps [a] = max a.deep 0 := rfl
    have e2 : P.deeps [o] = max o.deep 0 := rfl
    rcases ha with rfl | rfl
    · have : (P.nam t).deep = 1 := rfl
      omega
    · omega
theorem Args.ok {ts : List Str} {os as : List P} (h : Args ts os as) : (∀ x, x ∈ ts → nmOk x) → (∀ o, o ∈ os → o.ok) → ∀ a, a ∈ as → a.ok := by
  induction h with
  | nil => exact fun _ _ _ m => nomatch m
  | snoc _ ha ih =>
    intro h1 h2 b m
    rcases List.mem_append.mp m with m | m
    · exact ih (fun x hx => h1 x (List.mem_append_left _ hx)) (fun o ho => h2 o (List.mem_append_left _ ho)) b m
    · rw [List.mem_singleton.mp m]
      rcases ha with rfl | rfl
      · exact h1 _ (List.mem_append_right _ List.mem_cons_self)
      · exact h2 _ (List.mem_append_right _ List.mem_cons_self)
/-- the call of a loop's own function -/
def again (me t0 : Str) (as : List P) : P := gives (.fn me) (.op "less" [.nam t0, .num 1] :: as)
/-- what stands where the count is not nought -/
inductive More (one call : P) : P → Prop
  | call : More one call call
  | plus : More one call (.op "plus" [one, call])
  | pair : More one call (.op "pair" [one, call])
  | turn : More one call (.op "plus" [call, one])
/-- a body that calls itself -/
structure Lp (W : List (Str × Int)) (me t0 : Str) (ts : List Str) (n : Int) (ss : List Str) (d : P) : Prop where
  ex : ∃ (os as : List P) (one more last : P) (n1 n2 n3 : Int) (s1 s2 s3 : List Str), Dr W (t0 :: ts) 2 n ss n1 s1 os ∧ Args ts os as ∧ Dr W (t0 :: ts) 3 n1 s1 n2 s2 [one] ∧ More one (again me t0 as) more ∧ Dr W (t0 :: ts) 3 n2 s2 n3 s3 [last] ∧ d = .op "when" [.nam t0, more, last]
/-- a body -/
inductive Bd (W : List (Str × Int)) (me : Str) (things ss : List Str) : P → Prop
  | part {dp n n' : Int} {ss' : List Str} {d : P} : 0 ≤ dp → dp ≤ 11 → 0 ≤ n → n ≤ 59 → Dr W things dp n ss n' ss' [d] → Bd W me things ss d
  | loop {t0 : Str} {ts : List Str} {n : Int} {d : P} : me ≠ "" → things = t0 :: ts → 0 ≤ n → n ≤ 40 → Lp W me t0 ts n ss d → Bd W me things ss d
  | first {f : Str} {w : Int} {r : List (Str × Int)} {ks : List Int} : me = "" → W = (f, w) :: r → (ks.length : Int) = w → (∀ k, k ∈ ks → 0 ≤ k ∧ k < 8) → Bd W me things ss (gives (.fn f) (ks.map .num))
theorem kind_when : (("when" : Str), 3) ∈ kinds := by decide +kernel
theorem kind_less : (("less" : Str), 2) ∈ kinds := by decide +kernel
theorem kind_plus : (("plus" : Str), 2) ∈ kinds := by decide +kernel
theorem kind_pair : (("pair" : Str), 2) ∈ kinds := by decide +kernel
theorem kind_give : (("give" : Str), 2) ∈ kinds := by decide +kernel
theorem Dr.one_many {W : List (Str × Int)} {sc ss ss' : List Str} {dp n n' : Int} {d : P} (h : Dr W sc dp n ss n' ss' [d]) : (d.many : Int) = 1 + (n - n') := by
  have := h.many
  have e : P.manys [d] = d.many + 0 := rfl
  have e2 : [d].length = 1 := rfl
  omega
theorem Dr.one_deep {W : List (Str × Int)} {sc ss ss' : List Str} {dp n n' : Int} {d : P} (h : Dr W sc dp n ss n' ss' [d]) : d.deep ≤ dp.toNat + 1 := by
  have := h.deep
  have e : P.deeps [d] = max d.deep 0 := rfl
  omega
theorem two_ok {k : Str} {a b : P} (hk : (k, 2) ∈ kinds) (ha : a.ok) (hb : b.ok) : (P.op k [a, b]).ok := ⟨hk, ha, hb, True.intro⟩
theorem Bd.facts {W : List (Str × Int)} {me : Str} {things ss : List Str} {d : P} (h : Bd W me things ss d) (N : Nms W things ss) (hme : me ≠ "" → nmOk me) (hW : ∀ f, f ∈ W → 0 ≤ f.2 ∧ f.2 ≤ 4) (hl : things.length ≤ 4) : d.ok ∧ d.many ≤ 60 ∧ d.deep ≤ 12 := by
  cases h with
  | @part dp n n' ss' _ h0 h1 h2 h3 hd =>
    have e1 := hd.one_many
    have e2 := hd.one_deep
    have e3 := hd.nonneg h2
    exact ⟨hd.ok N d List.mem_cons_self, by omega, by omega⟩
  | @loop t0 ts n _ hm ht h0 h1 hL =>
    obtain ⟨os, as, one, more, last, n1, n2, n3, s1, s2, s3, d1, ha, d2, hmo, d3, rfl⟩ := hL.ex
    subst ht
    have N1 : Nms W (t0 :: ts) s1 := ⟨N.w, N.c, fun x hx => N.s x (d1.sub x hx)⟩
    have N2 : Nms W (t0 :: ts) s2 := ⟨N.w, N.c, fun x hx => N1.s x (d2.sub x hx)⟩
    have o1 := d1.ok N
    have o2 := d2.ok N1 one List.mem_cons_self
    have o3 := d3.ok N2 last List.mem_cons_self
    have oa := ha.ok (fun x hx => N.c x (List.mem_cons_of_mem _ hx)) o1
    have ht0 : (P.nam t0).ok := N.c t0 List.mem_cons_self
    have oc : (again me t0 as).ok := gives_ok (hme hm) fun b m => by
      rcases List.mem_cons.mp m with e | m
      · rw [e]
        exact two_ok kind_less ht0 True.intro
      · exact oa b m
    have l1 := ha.len
    have m1 := d1.many
    have m2 := d2.one_many
    have m3 := d3.one_many
    have ma := ha.many
    have p1 := d1.deep
    have p2 := d2.one_deep
    have p3 := d3.one_deep
    have pa := ha.deep
    have nn := d3.nonneg (d2.nonneg (d1.nonneg h0))
    have mc : (again me t0 as).many = 1 + (1 + (1 + (1 + 0)) + P.manys as) + (as.length + 1) := gives_many
    have pc : (again me t0 as).deep ≤ max 1 (max (1 + max 1 (max 1 0)) (P.deeps as)) + (as.length + 1) := gives_deep
    rw [List.length_cons] at hl
    have two : ∀ (k : Str) (x y : P), (P.op k [x, y]).many = 1 + (x.many + (y.many + 0)) := fun _ _ _ => rfl
    have twd : ∀ (k : Str) (x y : P), (P.op k [x, y]).deep = 1 + max x.deep (max y.deep 0) := fun _ _ _ => rfl
    have hmore : more.ok ∧ more.many ≤ 1 + one.many + (again me t0 as).many ∧ more.deep ≤ 1 + max one.deep (again me t0 as).deep := by
      cases hmo with
      | call => exact ⟨oc, by omega, by omega⟩
      | plus => exact ⟨two_ok kind_plus o2 oc, by rw [two]; omega, by rw [twd]; omega⟩
      | pair => exact ⟨two_ok kind_pair o2 oc, by rw [two]; omega, by rw [twd]; omega⟩
      | turn => exact ⟨two_ok kind_plus oc o2, by rw [two]; omega, by rw [twd]; omega⟩
    refine ⟨⟨kind_when, ht0, hmore.1, o3, True.intro⟩, ?_, ?_⟩
    · show 1 + (1 + (more.many + (last.many + 0))) ≤ 60
      omega
    · show 1 + max 1 (max more.deep (max last.deep 0)) ≤ 12
      omega
  | @first f w r ks hm hw hk h8 =>
    have hf : (f, w) ∈ W := by rw [hw]; exact List.mem_cons_self
    have hw4 := hW _ hf
    have hn : ∀ a, a ∈ ks.map P.num → a.ok := fun a m => by
      obtain ⟨k, _, rfl⟩ := List.mem_map.mp m
      exact True.intro
    have e1 : ∀ ks : List Int, P.manys (ks.map P.num) = ks.length := fun ks => by
      induction ks with
      | nil => rfl
      | cons k r ih =>
        show 1 + P.manys (r.map P.num) = r.length + 1
        rw [ih]
        omega
    have e2 : P.deeps (ks.map P.num) ≤ 1 := deeps_le fun a m => by
      obtain ⟨k, _, rfl⟩ := List.mem_map.mp m
      exact Nat.le_refl _
    have em := gives_many (as := ks.map P.num) (f := .fn f)
    have ed := gives_deep (as := ks.map P.num) (f := .fn f)
    rw [List.length_map] at em ed
    rw [e1] at em
    have f1 : (P.fn f).many = 1 := rfl
    have f2 : (P.fn f).deep = 1 := rfl
    refine ⟨gives_ok (N.w _ hf) hn, ?_, ?_⟩ <;> omega

/-! ### programs -/
abbrev Fn := Str × List Str × P
def fD (f : Fn) : PyData := .tuple [.str f.1, .tuple (f.2.1.map .str), f.2.2.data]
def progD (fs : List Fn) (d : P) : PyData := .tuple [.tuple (fs.map fD), d.data]
/-- six and twenty names, unlike -/
structure Stock (stk : List Str) : Prop where
  len : stk.length = 26
  nd : stk.Nodup
  ok : ∀ x, x ∈ stk → nmOk x
structure FnDr (W : List (Str × Int)) (f : Fn) : Prop where
  ex : ∃ (w : Nat) (stk : List Str), (f.1, (w : Int)) ∈ W ∧ w ≤ 4 ∧ Stock stk ∧ f.2.1 = stk.take w ∧ Bd W f.1 f.2.1 (stk.drop w) f.2.2
structure Prog (fs : List Fn) (d : P) : Prop where
  ex : ∃ W : List (Str × Int), W.map (·.1) = fs.map (·.1) ∧ (W.map (·.1)).Nodup ∧ W.length ≤ 8 ∧ (∀ f, f ∈ W → nmOk f.1 ∧ 0 ≤ f.2 ∧ f.2 ≤ 4) ∧ (∀ f, f ∈ fs → FnDr W f) ∧ ∃ stk, Stock stk ∧ Bd W "" [] stk d
theorem Stock.take {stk : List Str} (h : Stock stk) (w : Nat) : ∀ x, x ∈ stk.take w → nmOk x := fun x m => h.ok x (List.mem_of_mem_take m)
theorem Stock.drop {stk : List Str} (h : Stock stk) (w : Nat) : ∀ x, x ∈ stk.drop w → nmOk x := fun x m => h.ok x (List.mem_of_mem_drop m)
structure BodyOk (d : P) : Prop where
  ok : d.ok
  many : d.many ≤ 60
  deep : d.deep ≤ 12
theorem Prog.bodies {fs : List Fn} {d : P} (h : Prog fs d) : (∀ f, f ∈ fs → nmOk f.1 ∧ f.2.1.length ≤ 4 ∧ (∀ x, x ∈ f.2.1 → nmOk x) ∧ BodyOk f.2.2) ∧ BodyOk d ∧ fs.length ≤ 8 := by
  obtain ⟨W, e, nd, l8, hW, hf, stk, hs, hb⟩ := h.ex
  have hl : fs.length = W.length := by
    have := congrArg List.length e
    rw [List.length_map, List.length_map] at this
    exact this.symm
  refine ⟨fun f m => ?_, ?_, by omega⟩
  · obtain ⟨w, stk, hm, hw, hs, e, hb⟩ := (hf f m).ex
    have hl4 : f.2.1.length ≤ 4 := by rw [e, List.length_take]; omega
    have hn : ∀ x, x ∈ f.2.1 → nmOk x := by rw [e]; exact hs.take w
    have q := hb.facts ⟨fun g hg => (hW g hg).1, hn, hs.drop w⟩ (fun _ => (hW _ hm).1) (fun g hg => (hW g hg).2) hl4
    exact ⟨(hW _ hm).1, hl4, hn, q.1, q.2.1, q.2.2⟩
  · have q := hb.facts ⟨fun g hg => (hW g hg).1, (fun _ m => nomatch m), hs.ok⟩ (fun h => absurd rfl h) (fun g hg => (hW g hg).2) (Nat.zero_le _)
    exact ⟨q.1, q.2.1, q.2.2⟩
end Lz

set_option Elab.async false
set_option linter.all false
set_option maxRecDepth 100000
set_option maxHeartbeats 8000000
namespace Lz
open PySem PySem.Spec PyProof.Rows L2
def spMany (K : PySem.W.Frag) (n : Nat) : Sp := fun vs H Q _ => ∃ (v : V) (t : Lz.P), vs = [v] ∧ Dp K H v t.data ∧ t.ok ∧ t.many ≤ 1000 ∧ t.deep ≤ n ∧ ∀ H', Kp [] H H' → Q (.int (t.many : Nat)) H'
/-- what is within a part, and smaller -/
theorem inn_fits {t d : Lz.P} {i : Nat} {n : Nat} (ok : t.ok) (hm : t.many ≤ 1000) (hd : t.deep ≤ n + 1) (h : t.inn[i]? = some d) : d.ok ∧ d.many ≤ 1000 ∧ d.deep ≤ n := by
  have m := List.mem_of_getElem? h
  have h1 := inn_deep m
  have h2 := inn_ok ok d m
  have h3 := many_inn t
  have h4 : ∀ as : List Lz.P, d ∈ as → d.many ≤ Lz.P.manys as := fun as => by
    induction as with
    | nil => exact fun m => nomatch m
    | cons a r ih =>
      intro m
      show d.many ≤ a.many + Lz.P.manys r
      rcases List.mem_cons.mp m with e | m
      · rw [e]; omega
      · have := ih m
        omega
  have h5 := h4 _ m
  exact ⟨h2, by omega, by omega⟩
theorem inn_len {t : Lz.P} (hm : t.many ≤ 1000) : t.inn.length ≤ 999 := by
  have h1 := len_manys t.inn
  have h2 := many_inn t
  omega
theorem at_inn {K : PySem.W.Frag} {H : Hp} {xs : List V} {ts : List Lz.P} {i : Nat} {v : V} (h : DpAll K H xs (Lz.P.datas ts)) (hi : xs[i]? = some v) : ∃ d, ts[i]? = some d ∧ Dp K H v d.data := by
  obtain ⟨e, he, hd⟩ := h.at hi
  rw [datas_map, List.getElem?_map] at he
  cases ha : ts[i]? with
  | none => rw [ha] at he; cases he
  | some d =>
    rw [ha] at he
    obtain rfl : d.data = e := Option.some.inj he
    exact ⟨d, rfl, hd⟩
section
variable {P : Program} {w : World} {K : PySem.W.Frag} {mg : Str → Option Value} {base : Heap} {f : Addr} {fd : FuncData}
abbrev sManyIn : Stmt := topS 6
theorem scManyIn : FnScope ["part", "inner"] ["part"] (defScope sManyIn) := ⟨rfl, rfl, rfl, by decide +kernel, rfl, by decide +kernel, by decide +kernel⟩
theorem ok_many {n j : Nat} (hj : 1 ≤ j) (F : Fun K "many_in" "many_in" sManyIn f fd) (B : Bt mg) (CWithin : C8.Cal P w K mg base 1 "within" (spInn K) []) (CManyIn : C8.Cal P w K mg base j "many_in" (spMany K n) []) : FnOk P w K mg base CX0 (j + 1) f fd ["part"] (spMany K (n + 1)) := by
  have msum := B.sum
  refine F.ok scManyIn (fun vs H Q E h => ?_) (fun cdv A outer s H vs Q E hr h => ?_)
  · obtain ⟨v, t, rfl, _⟩ := h
    rfl
  obtain ⟨v, t, rfl, hd, hok, hmany, hdeep, q⟩ := h
  refine ⟨_, (pss_one (ps_ret (pe_op op_add pe_int (pe_callB (call_sumK (K := K) rfl rfl) (by rfl) msum (by decide +kernel) (pa_cons (pe_lc (own := [("inner", 1)]) rfl scManyIn.nd (pi_listK (K := K) rfl (C8.pe_c CWithin hr (by first | decide | omega) (by rfl) (pa_cons (pv 0) pa_nil))) (blkOk_by (N := ["part", "inner"]) (sc := defScope sManyIn) (by decide +kernel)) (fun _ _ _ _ _ => (pg_name (i := 1) scManyIn.nd rfl (.inl rfl))) (fun _ _ _ _ _ => pts_nil) (fun _ _ _ _ _ => (C8.pe_c CManyIn hr (by first | decide | omega) (by rfl) (pa_cons (pv 1) pa_nil)))) pa_nil))))), ?_⟩
  refine ⟨_, rfl, v, t, rfl, hd, hok, hmany, fun l xs H1 k1 hl0 hl1 hdx => ?_⟩
  have hxl : xs.length = t.inn.length := by rw [hdx.length, datas_len]
  have hil := inn_len hmany
  refine ⟨l, rfl, ⟨_, SqL.of hl1⟩, fun D hD => ?_⟩
  have nl : l ≠ D := ne_of_none hl1 hD
  refine lc_list (K := K) (a := l) (xs := xs) (fun i H' => Kp [] H1 H' ∧ H' D = some (.lst (((t.inn.take i).map (fun t => (t.many : Int))).map V.int)))
    ⟨Kp.new hD, upd_same⟩ (fun i H' _ ⟨k, _⟩ => SqL.of (k.lst hl1 (fun m => nomatch m))) ?_ ?_
  · rintro i x H2 hi ⟨k2, h2⟩
    obtain ⟨d, had, hdd⟩ := at_inn (Dp.keepAll k2 _ _ (datas_fz _) hdx) hi
    obtain ⟨dok, dm, ddp⟩ := inn_fits hok hmany hdeep had
    refine ⟨rfl, ?_⟩
    refine ⟨_, rfl, x, d, rfl, hdd, dok, dm, ddp, fun H3 k3 => ?_⟩
    have h3 := k3.lst h2 (fun m => nomatch m)
    refine ⟨_, h3, ?_, (k2.trans k3).mut hD, ?_⟩
    · rw [List.length_map, List.length_map, List.length_take]
      exact small1000 (by omega)
    · rw [upd_same, List.take_add_one, had, List.map_append, List.map_append]
      rfl
  · rintro H2 ⟨k2, h2⟩
    rw [hxl, List.take_length] at h2
    refine ⟨D, _, rfl, SqL.of h2, _, _, rfl, rfl, ?_⟩
    show Q (V.int (1 + (t.inn.map (fun t => (t.many : Int))).sum)) H2
    have e : 1 + (t.inn.map (fun t => (t.many : Int))).sum = ((t.many : Nat) : Int) := by
      rw [manys_sum, many_inn t]
      omega
    rw [e]
    exact q H2 (k1.trans k2)
end
end Lz

set_option Elab.async false
set_option linter.all false
set_option maxRecDepth 100000
set_option maxHeartbeats 4000000
/-! Places: plain Lean. -/
namespace Lz
open PySem
mutual
/-- the part and all within it, each ahead of those within it -/
def P.all : P → List P
  | .op k as => .op k as :: P.alls as
  | .lt nm as b => .lt nm as b :: (P.alls as ++ P.all b)
  | .num i => [.num i]
  | .nam x => [.nam x]
  | .fn x => [.fn x]
def P.alls : List P → List P
  | [] => []
  | a :: as => P.all a ++ P.alls as
end
theorem alls_append : ∀ as bs : List P, P.alls (as ++ bs) = P.alls as ++ P.alls bs
  | [], bs => rfl
  | a :: as, bs => by
    show P.all a ++ P.alls (as ++ bs) = P.all a ++ P.alls as ++ P.alls bs
    rw [alls_append as bs, List.append_assoc]
theorem all_inn : ∀ t : P, t.all = t :: P.alls t.inn
  | .num _ => rfl
  | .nam _ => rfl
  | .fn _ => rfl
  | .op _ _ => rfl
  | .lt nm as b => by
    show P.lt nm as b :: (P.alls as ++ P.all b) = P.lt nm as b :: P.alls (as ++ [b])
    rw [alls_append]
    show _ = P.lt nm as b :: (P.alls as ++ (P.all b ++ []))
    rw [List.append_nil]
mutual
theorem all_len : ∀ t : P, t.all.length = t.many
  | .num _ => rfl
  | .nam _ => rfl
  | .fn _ => rfl
  | .op k as => by
    show (P.alls as).length + 1 = 1 + P.manys as
    rw [alls_len as]
    omega
  | .lt nm as b => by
    show (P.alls as ++ P.all b).length + 1 = 1 + (P.manys as + P.many b)
    rw [List.length_append, alls_len as, all_len b]
    omega
theorem alls_len : ∀ as : List P, (P.alls as).length = P.manys as
  | [] => rfl
  | a :: as => by
    show (P.all a ++ P.alls as).length = P.many a + P.manys as
    rw [List.length_append, all_len a, alls_len as]
end
mutual
theorem all_ok : ∀ t : P, t.ok → ∀ d, d ∈ t.all → d.ok ∧ d.deep ≤ t.deep
  | .num i, h, d, m => by
    rw [List.mem_singleton.mp (show d ∈ [P.num i] from m)]
    exact ⟨h, Nat.le_refl _⟩
  | .nam x, h, d, m => by
    rw [List.mem_singleton.mp (show d ∈ [P.nam x] from m)]
    exact ⟨h, Nat.le_refl _⟩
  | .fn x, h, d, m => by
    rw [List.mem_singleton.mp (show d ∈ [P.fn x] from m)]
    exact ⟨h, Nat.le_refl _⟩
  | .op k as, h, d, m => by
    rcases List.mem_cons.mp (show d ∈ P.op k as :: P.alls as from m) with e | m
    · rw [e]; exact ⟨h, Nat.le_refl _⟩
    · have q := alls_ok as h.2 d m
      refine ⟨q.1, ?_⟩
      show d.deep ≤ 1 + P.deeps as
      have := q.2
      omega
  | .lt nm as b, h, d, m => by
    rcases List.mem_cons.mp (show d ∈ P.lt nm as b :: (P.alls as ++ P.all b) from m) with e | m
    · rw [e]; exact ⟨h, Nat.le_refl _⟩
    · have e : (P.lt nm as b).deep = 1 + max (P.deeps as) b.deep := rfl
      rcases List.mem_append.mp m with m | m
      · have q := alls_ok as h.2.2.1 d m
        exact ⟨q.1, by have := q.2; omega⟩
      · have q := all_ok b h.2.2.2 d m
        exact ⟨q.1, by have := q.2; omega⟩
theorem alls_ok : ∀ as : List P, P.oks as → ∀ d, d ∈ P.alls as → d.ok ∧ d.deep ≤ P.deeps as
  | [], _, _, m => nomatch m
  | a :: as, h, d, m => by
    have e : P.deeps (a :: as) = max a.deep (P.deeps as) := rfl
    rcases List.mem_append.mp (show d ∈ P.all a ++ P.alls as from m) with m | m
    · have q := all_ok a h.1 d m
      exact ⟨q.1, by have := q.2; omega⟩
    · have q := alls_ok as h.2 d m
      exact ⟨q.1, by have := q.2; omega⟩
end
/-- a place -/
def plD (n : Nat) (t : P) : PyData := .tuple [t.data, .int (n : Nat)]
/-- the places of bodies from number n on -/
def plcs (n : Nat) : List P → List PyData
  | [] => []
  | b :: r => b.all.map (plD n) ++ plcs (n + 1) r
theorem plcs_append : ∀ (n : Nat) (as : List P) (b : P), plcs n (as ++ [b]) = plcs n as ++ b.all.map (plD (n + as.length))
  | n, [], b => by
    show b.all.map (plD n) ++ [] = b.all.map (plD n)
    rw [List.append_nil]
  | n, a :: as, b => by
    show a.all.map (plD n) ++ plcs (n + 1) (as ++ [b]) = a.all.map (plD n) ++ plcs (n + 1) as ++ b.all.map (plD (n + (as.length + 1)))
    rw [plcs_append (n + 1) as b, List.append_assoc]
    have e : n + 1 + as.length = n + (as.length + 1) := by omega
    rw [e]
theorem plcs_len : ∀ (n : Nat) (as : List P), (plcs n as).length = P.manys as
  | n, [] => rfl
  | n, a :: as => by
    show (a.all.map (plD n) ++ plcs (n + 1) as).length = a.many + P.manys as
    rw [List.length_append, List.length_map, all_len, plcs_len (n + 1) as]
theorem plD_fz (n : Nat) (t : P) : fz (plD n t) = true := by
  show (fz t.data && (true && true)) = true
  rw [data_fz]
  rfl
theorem plcs_mem : ∀ (n : Nat) (as : List P) (d : PyData), d ∈ plcs n as → ∃ a t m, a ∈ as ∧ t ∈ a.all ∧ d = plD m t
  | n, [], d, h => nomatch h
  | n, a :: as, d, h => by
    rcases List.mem_append.mp (show d ∈ a.all.map (plD n) ++ plcs (n + 1) as from h) with m | m
    · obtain ⟨t, ht, rfl⟩ := List.mem_map.mp m
      exact ⟨a, t, n, List.mem_cons_self, ht, rfl⟩
    · obtain ⟨b, t, k, hb, ht, e⟩ := plcs_mem (n + 1) as d m
      exact ⟨b, t, k, List.mem_cons_of_mem _ hb, ht, e⟩
theorem plcs_fz (n : Nat) (as : List P) : fzAll (plcs n as) = true := fzAll_iff.mpr fun d m => by
  obtain ⟨a, t, k, _, _, rfl⟩ := plcs_mem n as d m
  exact plD_fz _ _
theorem plcs_shaped {n : Nat} {as : List P} (h : ∀ a, a ∈ as → a.ok ∧ a.deep ≤ 12) : SeqAt.shaped (.list (plcs n as)) = true ∧ PyData.canLayAll0 (plcs n as) = true := by
  have h1 : PyData.canLayAll0 (plcs n as) = true := layAll_iff.mpr fun d m => by
    obtain ⟨a, t, k, ha, ht, rfl⟩ := plcs_mem n as d m
    have q := all_ok a (h a ha).1 t ht
    show (PyData.tuple [t.data, .int (k : Nat)]).canLay0 = true
    rw [lay_tup, lay_cons, lay_cons, lay_nil, data_lay t q.1]
    simp only [PyData.canLay0]
    rfl
  have h2 : PyData.depthAll (plcs n as) ≤ 40 := depthAll_le fun d m => by
    obtain ⟨a, t, k, ha, ht, rfl⟩ := plcs_mem n as d m
    have q := (all_ok a (h a ha).1 t ht).2
    have q2 := (h a ha).2
    have q3 := data_depth t
    show (PyData.tuple [t.data, .int (k : Nat)]).depth ≤ 40
    rw [depth_tup, depthAll_cons, depthAll_cons]
    simp only [PyData.depth, PyData.depthAll]
    omega
  have e : (PyData.list (plcs n as)).depth = PyData.depthAll (plcs n as) + 1 := by simp only [PyData.depth]
  have e2 : (PyData.list (plcs n as)).canLay0 = PyData.canLayAll0 (plcs n as) := by rw [PyData.canLay0]
  refine ⟨?_, h1⟩
  unfold SeqAt.shaped
  rw [e2, h1, Bool.true_and]
  exact decide_eq_true (by omega)
theorem plcs_same {n : Nat} {as : List P} (h : ∀ a, a ∈ as → a.ok ∧ a.deep ≤ 12) : PyData.eqv (.list (plcs n as)) (.list (plcs n as)) = true := by
  rw [PyData.eqv]
  exact SeqAt.eqvAll_refl _ (plcs_shaped h).2
/-! ### a program as its functions and what is asked -/
def askedFn (d : P) : Fn := (("" : Str), [], d)
def fnsOf (fs : List Fn) (d : P) : List Fn := fs ++ [askedFn d]
def bodies (fs : List Fn) : List P := fs.map (·.2.2)
structure PrOk (fs : List Fn) (d : P) : Prop where
  len : fs.length ≤ 8
  nd : ((fnsOf fs d).map (·.1)).Nodup
  bd : ∀ f, f ∈ fnsOf fs d → BodyOk f.2.2 ∧ f.2.1.length ≤ 4
theorem Prog.prOk {fs : List Fn} {d : P} (h : Prog fs d) : PrOk fs d := by
  obtain ⟨h1, h2, h3⟩ := h.bodies
  obtain ⟨W, e, nd, _⟩ := h.ex
  refine ⟨h3, ?_, fun f m => ?_⟩
  · unfold fnsOf
    rw [List.map_append, List.nodup_append]
    refine ⟨by rw [← e]; exact nd, by simp, fun a ha b hb => ?_⟩
    obtain ⟨f, hf, rfl⟩ := List.mem_map.mp ha
    have hb' : b = "" := by
      have := List.mem_singleton.mp (show b ∈ [(askedFn d).1] from hb)
      exact this
    intro q
    have := (h1 f hf).1.1
    rw [q, hb'] at this
    exact absurd this (by decide +kernel)
  · rcases List.mem_append.mp m with m | m
    · exact ⟨(h1 f m).2.2.2, (h1 f m).2.1⟩
    · rw [List.mem_singleton.mp m]
      exact ⟨h2, Nat.zero_le _⟩
theorem bodies_append (fs gs : List Fn) : bodies (fs ++ gs) = bodies fs ++ bodies gs := List.map_append
end Lz

set_option Elab.async false
set_option linter.all false
set_option maxRecDepth 100000
set_option maxHeartbeats 4000000
/-! What fits: plain Lean. -/
namespace Lz
open PySem
mutual
/-- numbers small enough, names known, one to four rows -/
def P.fit (F : List Str) : P → List Str → Prop
  | .num i, _ => i.natAbs < 10 ^ 60
  | .nam x, sc => x ∈ sc
  | .fn x, _ => x ∈ F
  | .op _ as, sc => P.fits F as sc
  | .lt nm as b, sc => 1 ≤ nm.length ∧ nm.length ≤ 4 ∧ P.fits F as (sc ++ nm) ∧ P.fit F b (sc ++ nm)
def P.fits (F : List Str) : List P → List Str → Prop
  | [], _ => True
  | a :: as, sc => P.fit F a sc ∧ P.fits F as sc
end
mutual
/-- the names of all rows within -/
def P.rown : P → List Str
  | .op _ as => P.rowns as
  | .lt nm as b => nm ++ (P.rowns as ++ P.rown b)
  | .num _ => []
  | .nam _ => []
  | .fn _ => []
def P.rowns : List P → List Str
  | [] => []
  | a :: as => P.rown a ++ P.rowns as
end
def P.own : P → List Str
  | .lt nm _ _ => nm
  | _ => []
theorem fits_iff {F : List Str} {sc : List Str} : ∀ {as : List P}, P.fits F as sc ↔ ∀ a, a ∈ as → a.fit F sc
  | [] => ⟨fun _ _ h => (nomatch h), fun _ => True.intro⟩
  | x :: xs => by
    show (P.fit F x sc ∧ P.fits F xs sc) ↔ _
    rw [fits_iff]
    refine ⟨fun h d m => ?_, fun h => ⟨h x List.mem_cons_self, fun d m => h d (List.mem_cons_of_mem _ m)⟩⟩
    rcases List.mem_cons.mp m with e | m
    · rw [e]; exact h.1
    · exact h.2 d m
theorem fits_append {F : List Str} {sc : List Str} {as bs : List P} : P.fits F (as ++ bs) sc ↔ P.fits F as sc ∧ P.fits F bs sc := by
  rw [fits_iff, fits_iff, fits_iff]
  exact ⟨fun h => ⟨fun a m => h a (List.mem_append_left _ m), fun a m => h a (List.mem_append_right _ m)⟩, fun h a m => (List.mem_append.mp m).elim (h.1 a) (h.2 a)⟩
theorem rowns_append : ∀ as bs : List P, P.rowns (as ++ bs) = P.rowns as ++ P.rowns bs
  | [], bs => rfl
  | a :: as, bs => by
    show P.rown a ++ P.rowns (as ++ bs) = P.rown a ++ P.rowns as ++ P.rowns bs
    rw [rowns_append as bs, List.append_assoc]
theorem rown_one (b : P) : P.rowns [b] = b.rown := List.append_nil _
/-- what is within a part that fits -/
theorem fit_inn {F : List Str} {t : P} {sc : List Str} (h : t.fit F sc) : ∀ a, a ∈ t.inn → a.fit F (sc ++ t.own) := fun a m => by
  cases t with
  | num i => exact nomatch m
  | nam i => exact nomatch m
  | fn i => exact nomatch m
  | op k as =>
    show a.fit F (sc ++ [])
    rw [List.append_nil]
    exact fits_iff.mp h a m
  | lt nm as b =>
    rcases List.mem_append.mp (show a ∈ as ++ [b] from m) with m | m
    · exact fits_iff.mp h.2.2.1 a m
    · rw [List.mem_singleton.mp m]
      exact h.2.2.2
theorem own_len {F : List Str} {t : P} {sc : List Str} (h : t.fit F sc) : t.own.length ≤ 4 := by
  cases t with
  | lt nm as b => exact h.2.1
  | _ => exact Nat.zero_le _
mutual
theorem all_own : ∀ t : P, t.all.flatMap P.own = t.rown
  | .num _ => rfl
  | .nam _ => rfl
  | .fn _ => rfl
  | .op k as => by
    show P.own (.op k as) ++ (P.alls as).flatMap P.own = P.rowns as
    rw [alls_own as]
    rfl
  | .lt nm as b => by
    show nm ++ (P.alls as ++ P.all b).flatMap P.own = nm ++ (P.rowns as ++ P.rown b)
    rw [List.flatMap_append, alls_own as, all_own b]
theorem alls_own : ∀ as : List P, (P.alls as).flatMap P.own = P.rowns as
  | [] => rfl
  | a :: as => by
    show (P.all a ++ P.alls as).flatMap P.own = P.rown a ++ P.rowns as
    rw [List.flatMap_append, all_own a, alls_own as]
end
theorem gives_rown : ∀ {as : List P} {f : P}, (gives f as).rown = f.rown ++ P.rowns as
  | [], f => (List.append_nil _).symm
  | a :: as, f => by
    show (gives (.op "give" [f, a]) as).rown = f.rown ++ (a.rown ++ P.rowns as)
    rw [gives_rown (as := as)]
    show (f.rown ++ (a.rown ++ [])) ++ P.rowns as = _
    rw [List.append_nil, List.append_assoc]
theorem gives_fit {F sc : List Str} : ∀ {as : List P} {f : P}, f.fit F sc → P.fits F as sc → (gives f as).fit F sc
  | [], f, h, _ => h
  | a :: as, f, h, k => gives_fit (as := as) (f := .op "give" [f, a]) (show P.fit F f sc ∧ P.fit F a sc ∧ True from ⟨h, k.1, True.intro⟩) k.2
theorem Dr.fits {W : List (Str × Int)} {sc ss ss' : List Str} {dp n n' : Int} {ds : List P} (h : Dr W sc dp n ss n' ss' ds) : P.fits (W.map (·.1)) ds sc := by
  induction h with
  | nil => exact True.intro
  | num a _ ih => exact ⟨a, ih⟩
  | nam a _ ih => exact ⟨a, ih⟩
  | fn a _ ih => exact ⟨List.mem_map.mpr ⟨_, a, rfl⟩, ih⟩
  | call a b c d _ _ i1 i2 => exact ⟨gives_fit (show _ ∈ _ from List.mem_map.mpr ⟨_, a, rfl⟩) i1, i2⟩
  | lt _ a b _ _ _ _ _ _ i1 i2 =>
    have q := fits_append.mp i1
    exact ⟨⟨a, b, q.1, q.2.1⟩, i2⟩
  | op _ _ _ _ _ i1 i2 => exact ⟨i1, i2⟩
theorem Dr.rows {W : List (Str × Int)} {sc ss ss' : List Str} {dp n n' : Int} {ds : List P} (h : Dr W sc dp n ss n' ss' ds) : (P.rowns ds ++ ss').Perm ss := by
  induction h with
  | nil => exact List.Perm.refl _
  | num a _ ih => exact ih
  | nam a _ ih => exact ih
  | fn a _ ih => exact ih
  | @call sc ss ss1 ss' dp n n1 n' w f as ds a b c d _ _ i1 i2 =>
    show ((gives (.fn f) as).rown ++ P.rowns ds ++ ss').Perm ss
    rw [gives_rown, List.append_assoc]
    exact (i2.append_left _).trans i1
  | @lt sc nm ss ss1 ss' dp n n1 n' as ds b k _ _ _ e1 _ _ _ _ _ i1 i2 =>
    show (nm ++ (P.rowns as ++ b.rown) ++ P.rowns ds ++ ss').Perm ss
    rw [rowns_append, rown_one] at i1
    rw [List.append_assoc, List.append_assoc]
    refine (((i2.append_left _).trans i1).append_left nm).trans ?_
    refine (List.perm_append_comm).trans ?_
    have e := List.take_append_drop k ss
    rw [e1] at e
    have : (ss.take k ++ nm).Perm (ss.take k ++ nm.reverse) := (List.reverse_perm nm).symm.append_left _
    rw [e] at this
    exact this
  | @op sc ss ss1 ss' dp n n1 n' k as ds _ _ _ _ _ i1 i2 =>
    show (P.rowns as ++ P.rowns ds ++ ss').Perm ss
    rw [List.append_assoc]
    exact (i2.append_left _).trans i1
theorem Dr.nodup {W : List (Str × Int)} {sc ss ss' : List Str} {dp n n' : Int} {ds : List P} (h : Dr W sc dp n ss n' ss' ds) (nd : ss.Nodup) : (P.rowns ds ++ ss').Nodup := (h.rows.nodup_iff).mpr nd
theorem Dr.mem {W : List (Str × Int)} {sc ss ss' : List Str} {dp n n' : Int} {ds : List P} (h : Dr W sc dp n ss n' ss' ds) : ∀ x, x ∈ P.rowns ds → x ∈ ss := fun x m => h.rows.mem_iff.mp (List.mem_append_left _ m)
theorem Args.rows {ts : List Str} {os as : List P} (h : Args ts os as) : (P.rowns as).Sublist (P.rowns os) := by
  induction h with
  | nil => exact List.Sublist.refl _
  | @snoc ts os as t o a _ ha ih =>
    rw [rowns_append, rowns_append, rown_one, rown_one]
    refine ih.append ?_
    rcases ha with rfl | rfl
    · exact List.nil_sublist _
    · exact List.Sublist.refl _
theorem Args.fits {ts : List Str} {os as : List P} {F sc : List Str} (h : Args ts os as) : (∀ x, x ∈ ts → x ∈ sc) → P.fits F os sc → P.fits F as sc := by
  induction h with
  | nil => exact fun _ _ => True.intro
  | @snoc ts os as t o a _ ha ih =>
    intro h1 h2
    rw [fits_append] at h2 ⊢
    refine ⟨ih (fun x m => h1 x (List.mem_append_left _ m)) h2.1, ?_, True.intro⟩
    rcases ha with rfl | rfl
    · exact h1 _ (List.mem_append_right _ List.mem_cons_self)
    · exact h2.2.1
theorem again_rown (me t0 : Str) (as : List P) : (again me t0 as).rown = P.rowns as := by
  unfold again
  rw [gives_rown]
  rfl
theorem Bd.more {W : List (Str × Int)} {me : Str} {things ss : List Str} {d : P} (h : Bd W me things ss d) (hme : me ≠ "" → me ∈ W.map (·.1)) (nd : ss.Nodup) : d.fit (W.map (·.1)) things ∧ d.rown.Nodup ∧ ∀ x, x ∈ d.rown → x ∈ ss := by
  cases h with
  | @part dp n n' ss' _ h0 h1 h2 h3 hd =>
    have e1 := hd.fits
    have e2 := hd.nodup nd
    have e3 := hd.mem
    rw [rown_one] at e2 e3
    exact ⟨e1.1, (List.nodup_append.mp e2).1, e3⟩
  | @loop t0 ts n _ hm ht h0 h1 hL =>
    obtain ⟨os, as, one, more, last, n1, n2, n3, s1, s2, s3, d1, ha, d2, hmo, d3, rfl⟩ := hL.ex
    subst ht
    have f1 := d1.fits
    have f2 := d2.fits.1
    have f3 := d3.fits.1
    have fa := ha.fits (fun x m => List.mem_cons_of_mem _ m) f1
    have ft : (P.nam t0).fit (W.map (·.1)) (t0 :: ts) := (List.mem_cons_self : t0 ∈ t0 :: ts)
    have fl : (P.op "less" [.nam t0, .num 1]).fit (W.map (·.1)) (t0 :: ts) := ⟨ft, (by show (1 : Int).natAbs < 10 ^ 60; decide +kernel), True.intro⟩
    have fc : (again me t0 as).fit (W.map (·.1)) (t0 :: ts) := gives_fit (show me ∈ _ from hme hm) ⟨fl, fa⟩
    have r1 := d1.rows
    have r2 := d2.rows
    have r3 := d3.rows
    rw [rown_one] at r2 r3
    have rr : (P.rowns os ++ (one.rown ++ (last.rown ++ s3))).Perm ss := (((r3.append_left _).trans r2).append_left _).trans r1
    have nn := rr.nodup_iff.mpr nd
    have hs := ha.rows
    have hr : (P.op "when" [.nam t0, more, last]).rown = more.rown ++ last.rown := by
      show [] ++ (more.rown ++ (last.rown ++ [])) = _
      rw [List.append_nil]
      rfl
    have key : ∀ L : List Str, L.Sublist (P.rowns os ++ (one.rown ++ (last.rown ++ s3))) ∨ L.Sublist (one.rown ++ (P.rowns os ++ (last.rown ++ s3))) → L.Nodup ∧ ∀ x, x ∈ L → x ∈ ss := fun L h => by
      rcases h with h | h
      · exact ⟨h.nodup nn, fun x m => rr.mem_iff.mp (h.subset m)⟩
      · have sw : (one.rown ++ (P.rowns os ++ (last.rown ++ s3))).Perm (P.rowns os ++ (one.rown ++ (last.rown ++ s3))) := by
          rw [← List.append_assoc, ← List.append_assoc (P.rowns os)]
          exact List.perm_append_comm.append_right _
        have nn2 := sw.nodup_iff.mpr nn
        exact ⟨h.nodup nn2, fun x m => rr.mem_iff.mp (sw.mem_iff.mp (h.subset m))⟩
    have sl : last.rown.Sublist (last.rown ++ s3) := List.sublist_append_left _ _
    have ac := again_rown me t0 as
    cases hmo with
    | call =>
      refine ⟨⟨ft, fc, f3, True.intro⟩, ?_⟩
      rw [hr, ac]
      exact key _ (.inl (hs.append (sl.trans (List.sublist_append_right _ _))))
    | plus =>
      refine ⟨⟨ft, ⟨f2, fc, True.intro⟩, f3, True.intro⟩, ?_⟩
      rw [hr]
      have e : (P.op "plus" [one, again me t0 as]).rown = one.rown ++ P.rowns as := by
        show one.rown ++ ((again me t0 as).rown ++ []) = _
        rw [List.append_nil, ac]
      rw [e, List.append_assoc]
      exact key _ (.inr ((List.Sublist.refl _).append (hs.append sl)))
    | pair =>
      refine ⟨⟨ft, ⟨f2, fc, True.intro⟩, f3, True.intro⟩, ?_⟩
      rw [hr]
      have e : (P.op "pair" [one, again me t0 as]).rown = one.rown ++ P.rowns as := by
        show one.rown ++ ((again me t0 as).rown ++ []) = _
        rw [List.append_nil, ac]
      rw [e, List.append_assoc]
      exact key _ (.inr ((List.Sublist.refl _).append (hs.append sl)))
    | turn =>
      refine ⟨⟨ft, ⟨fc, f2, True.intro⟩, f3, True.intro⟩, ?_⟩
      rw [hr]
      have e : (P.op "plus" [again me t0 as, one]).rown = P.rowns as ++ one.rown := by
        show (again me t0 as).rown ++ (one.rown ++ []) = _
        rw [List.append_nil, ac]
      rw [e, List.append_assoc]
      exact key _ (.inl (hs.append ((List.Sublist.refl _).append sl)))
  | @first f w r ks hm hw hk h8 =>
    have hf : f ∈ W.map (·.1) := by rw [hw]; exact List.mem_cons_self
    have e : (gives (.fn f) (ks.map P.num)).rown = [] := by
      rw [gives_rown]
      show [] ++ P.rowns (ks.map P.num) = []
      rw [List.nil_append]
      clear hk h8
      induction ks with
      | nil => rfl
      | cons k r ih => exact ih
    refine ⟨gives_fit hf (fits_iff.mpr fun a m => ?_), ?_⟩
    · obtain ⟨k, hk, rfl⟩ := List.mem_map.mp m
      have := h8 k hk
      show k.natAbs < 10 ^ 60
      have h60 : (8 : Nat) ≤ 10 ^ 60 := by decide +kernel
      generalize (10 : Nat) ^ 60 = z at h60 ⊢
      omega
    · rw [e]
      exact ⟨List.nodup_nil, fun x m => nomatch m⟩
/-- a program that fits -/
structure Fits (fs : List Fn) (d : P) : Prop where
  len : fs.length ≤ 8
  nm : ∀ g, g ∈ fs → nmOk g.1 ∧ ∀ x, x ∈ g.2.1 → nmOk x
  nd : (fs.map (·.1)).Nodup
  few : ∀ g, g ∈ fnsOf fs d → g.2.1.length ≤ 4
  bd : ∀ g, g ∈ fnsOf fs d → BodyOk g.2.2
  ft : ∀ g, g ∈ fnsOf fs d → g.2.2.fit (fs.map (·.1)) g.2.1
  hid : ∀ g, g ∈ fnsOf fs d → (g.2.1 ++ g.2.2.rown).Nodup
theorem Prog.fits {fs : List Fn} {d : P} (h : Prog fs d) : Fits fs d := by
  obtain ⟨h1, h2, h3⟩ := h.bodies
  obtain ⟨W, e, nd, l8, hW, hf, stk, hs, hb⟩ := h.ex
  have q2 := hb.more (fun q => absurd rfl q) hs.nd
  rw [e] at q2
  have key : ∀ g, g ∈ fnsOf fs d → g.2.1.length ≤ 4 ∧ BodyOk g.2.2 ∧ g.2.2.fit (fs.map (·.1)) g.2.1 ∧ (g.2.1 ++ g.2.2.rown).Nodup := fun g m => by
    rcases List.mem_append.mp m with m | m
    · obtain ⟨w, stk, hm, hw, hs, e2, hb⟩ := (hf g m).ex
      have hme : g.1 ∈ W.map (·.1) := List.mem_map.mpr ⟨_, hm, rfl⟩
      have q := hb.more (fun _ => hme) (hs.nd.sublist (List.drop_sublist _ _))
      rw [e] at q
      refine ⟨(h1 g m).2.1, (h1 g m).2.2.2, q.1, ?_⟩
      have hn := hs.nd
      rw [← List.take_append_drop w stk] at hn
      have hn := List.nodup_append.mp hn
      rw [e2, List.nodup_append]
      rw [e2] at q
      exact ⟨hn.1, q.2.1, fun a ha b hb => hn.2.2 a ha b (q.2.2 b hb)⟩
    · rw [List.mem_singleton.mp m]
      exact ⟨Nat.zero_le _, h2, q2.1, q2.2.1⟩
  exact ⟨h3, fun g m => ⟨(h1 g m).1, (h1 g m).2.2.1⟩, by rw [← e]; exact nd, fun g m => (key g m).1, fun g m => (key g m).2.1, fun g m => (key g m).2.2.1, fun g m => (key g m).2.2.2⟩
end Lz

set_option Elab.async false
set_option linter.all false
set_option maxRecDepth 100000
set_option maxHeartbeats 4000000
/-! Closed parts, shut ones among them: plain Lean. -/
namespace Lz
open PySem
theorem small9000 {n : Nat} (h : n ≤ 9000) : n < 2 ^ 24 := by
  have : (2 : Nat) ^ 24 = 16777216 := by decide
  omega
def kinds2 : List (Str × Nat) := ("shut", 1) :: kinds
mutual
/-- it is a closed part: kinds, shut ones too, names, functions that are there -/
def P.okS (F : List Str) : P → Prop
  | .num _ => True
  | .nam x => nmOk x
  | .fn x => nmOk x ∧ x ∈ F
  | .op k as => (k, as.length) ∈ kinds2 ∧ P.okSs F as
  | .lt nm as b => nm.length = as.length ∧ (∀ x, x ∈ nm → nmOk x) ∧ P.okSs F as ∧ P.okS F b
def P.okSs (F : List Str) : List P → Prop
  | [] => True
  | a :: as => P.okS F a ∧ P.okSs F as
end
theorem okSs_iff {F : List Str} : ∀ {as : List P}, P.okSs F as ↔ ∀ a, a ∈ as → a.okS F
  | [] => ⟨fun _ _ h => (nomatch h), fun _ => True.intro⟩
  | x :: xs => by
    show (P.okS F x ∧ P.okSs F xs) ↔ _
    rw [okSs_iff]
    refine ⟨fun h d m => ?_, fun h => ⟨h x List.mem_cons_self, fun d m => h d (List.mem_cons_of_mem _ m)⟩⟩
    rcases List.mem_cons.mp m with e | m
    · rw [e]; exact h.1
    · exact h.2 d m
theorem kinds_sub {k : Str} {n : Nat} (h : (k, n) ∈ kinds) : (k, n) ∈ kinds2 := List.mem_cons_of_mem _ h
mutual
theorem okS_of {F : List Str} : ∀ (t : P) (sc : List Str), t.ok → t.fit F sc → t.okS F
  | .num _, _, _, _ => True.intro
  | .nam _, _, h, _ => h
  | .fn _, _, h, k => ⟨h, k⟩
  | .op k as, sc, h, f => ⟨kinds_sub h.1, okSs_of as sc h.2 f⟩
  | .lt nm as b, sc, h, f => ⟨h.1, h.2.1, okSs_of as _ h.2.2.1 f.2.2.1, okS_of b _ h.2.2.2 f.2.2.2⟩
theorem okSs_of {F : List Str} : ∀ (as : List P) (sc : List Str), P.oks as → P.fits F as sc → P.okSs F as
  | [], _, _, _ => True.intro
  | a :: as, sc, h, f => ⟨okS_of a sc h.1 f.1, okSs_of as sc h.2 f.2⟩
end
theorem kind2_str {k : Str} {n : Nat} (h : (k, n) ∈ kinds2) : PyData.strOk k = true := by
  have h0 : kinds2.all (fun p => PyData.strOk p.1) = true := by decide +kernel
  exact List.all_eq_true.mp h0 _ h
theorem kind2_len {k : Str} {n : Nat} (h : (k, n) ∈ kinds2) : 1 ≤ n ∧ n ≤ 3 := by
  have h0 : kinds2.all (fun p => decide (1 ≤ p.2) && decide (p.2 ≤ 3)) = true := by decide +kernel
  have q := List.all_eq_true.mp h0 _ h
  simp only [Bool.and_eq_true, decide_eq_true_eq] at q
  exact q
theorem kind2_plain {k : Str} {n : Nat} (h : (k, n) ∈ kinds2) : k ≠ "let" ∧ k ≠ "number" ∧ k ≠ "name" ∧ k ≠ "fun" := by
  have h0 : kinds2.all (fun p => decide (p.1 ≠ "let") && decide (p.1 ≠ "number") && decide (p.1 ≠ "name") && decide (p.1 ≠ "fun")) = true := by decide +kernel
  have q := List.all_eq_true.mp h0 _ h
  simp only [Bool.and_eq_true, decide_eq_true_eq] at q
  exact ⟨q.1.1.1, q.1.1.2, q.1.2, q.2⟩
theorem give_two {n : Nat} (h : (("give" : Str), n) ∈ kinds2) : n = 2 := by
  have h0 : kinds2.all (fun p => !decide (p.1 = "give") || decide (p.2 = 2)) = true := by decide +kernel
  have q := List.all_eq_true.mp h0 _ h
  simpa using q
mutual
theorem data_layS {F : List Str} : ∀ t : P, t.okS F → t.data.canLay0 = true
  | .num _, _ => by
    show (PyData.tuple [.str "number", .int _]).canLay0 = true
    rw [lay_tup, lay_cons, lay_cons, lay_nil, lay_str]
    simp only [PyData.canLay0]
    decide +kernel
  | .nam x, h => by
    show (PyData.tuple [.str "name", .str x]).canLay0 = true
    rw [lay_tup, lay_cons, lay_cons, lay_nil, lay_str, lay_str, nmOk.strOk (show nmOk x from h)]
    decide +kernel
  | .fn x, h => by
    show (PyData.tuple [.str "fun", .str x]).canLay0 = true
    have h' : nmOk x ∧ x ∈ F := h
    rw [lay_tup, lay_cons, lay_cons, lay_nil, lay_str, lay_str, nmOk.strOk h'.1]
    decide +kernel
  | .op k as, h => by
    show (PyData.tuple (.str k :: P.datas as)).canLay0 = true
    have h' : (k, as.length) ∈ kinds2 ∧ P.okSs F as := h
    rw [lay_tup, lay_cons, lay_str, kind2_str h'.1, datas_layS as h'.2]
    rfl
  | .lt nm as b, h => by
    show (PyData.tuple [.str "let", .tuple (List.zipWith rowD nm (P.datas as)), b.data]).canLay0 = true
    have h' : nm.length = as.length ∧ (∀ x, x ∈ nm → nmOk x) ∧ P.okSs F as ∧ P.okS F b := h
    have hr : PyData.canLayAll0 (List.zipWith rowD nm (P.datas as)) = true := layAll_iff.mpr fun d m => by
      obtain ⟨x, e, hx, he, rfl⟩ := zip_mem m
      have q := layAll_iff.mp (datas_layS as h'.2.2.1) e he
      show (PyData.tuple [.str x, e]).canLay0 = true
      rw [lay_tup, lay_cons, lay_cons, lay_nil, lay_str, nmOk.strOk (h'.2.1 x hx), q]
      rfl
    rw [lay_tup, lay_cons, lay_cons, lay_cons, lay_nil, lay_str, lay_tup, hr, data_layS b h'.2.2.2]
    decide +kernel
theorem datas_layS {F : List Str} : ∀ as : List P, P.okSs F as → PyData.canLayAll0 (P.datas as) = true
  | [], _ => lay_nil
  | a :: as, h => by
    have h' : P.okS F a ∧ P.okSs F as := h
    show PyData.canLayAll0 (a.data :: P.datas as) = true
    rw [lay_cons, data_layS a h'.1, datas_layS as h'.2]
    rfl
end
theorem datas_shapedS {F : List Str} {as : List P} (h : P.okSs F as) (hd : P.deeps as ≤ 20) : SeqAt.shaped (.list (P.datas as)) = true := by
  have h1 := datas_depth as
  have e : (PyData.list (P.datas as)).depth = PyData.depthAll (P.datas as) + 1 := by simp only [PyData.depth]; try omega
  have e2 : (PyData.list (P.datas as)).canLay0 = PyData.canLayAll0 (P.datas as) := by rw [PyData.canLay0]
  unfold SeqAt.shaped
  rw [e2, datas_layS as h, Bool.true_and]
  exact decide_eq_true (by omega)
/-- the kind of a part -/
def P.hd : P → Str
  | .num _ => "number"
  | .nam _ => "name"
  | .fn _ => "fun"
  | .op k _ => k
  | .lt _ _ _ => "let"
def P.tl : P → List PyData
  | .num i => [.int i]
  | .nam x => [.str x]
  | .fn x => [.str x]
  | .op _ as => P.datas as
  | .lt nm as b => [.tuple (List.zipWith rowD nm (P.datas as)), b.data]
theorem data_hd : ∀ t : P, t.data = .tuple (.str t.hd :: t.tl)
  | .num _ => rfl
  | .nam _ => rfl
  | .fn _ => rfl
  | .op _ _ => rfl
  | .lt _ _ _ => rfl
theorem hd_give {F : List Str} {t : P} (h : t.okS F) (e : t.hd = "give") : ∃ a b, t = .op "give" [a, b] := by
  cases t with
  | num i => exact absurd (show ("number" : Str) = "give" from e) (by decide +kernel)
  | nam i => exact absurd (show ("name" : Str) = "give" from e) (by decide +kernel)
  | fn i => exact absurd (show ("fun" : Str) = "give" from e) (by decide +kernel)
  | lt nm as b => exact absurd (show ("let" : Str) = "give" from e) (by decide +kernel)
  | op k as =>
    obtain rfl : k = "give" := e
    have h2 := give_two (show (("give" : Str), as.length) ∈ kinds2 ∧ P.okSs F as from h).1
    match as, h2 with
    | [a, b], _ => exact ⟨a, b, rfl⟩
theorem hd_fun {F : List Str} {t : P} (h : t.okS F) (e : t.hd = "fun") : ∃ f, t = .fn f ∧ f ∈ F := by
  cases t with
  | num i => exact absurd (show ("number" : Str) = "fun" from e) (by decide +kernel)
  | nam i => exact absurd (show ("name" : Str) = "fun" from e) (by decide +kernel)
  | fn i => exact ⟨i, rfl, (show nmOk i ∧ i ∈ F from h).2⟩
  | lt nm as b => exact absurd (show ("let" : Str) = "fun" from e) (by decide +kernel)
  | op k as => exact absurd e (kind2_plain (show (k, as.length) ∈ kinds2 ∧ P.okSs F as from h).1).2.2.2
/-- so many gives, and what stands at their head -/
inductive Spine : P → Nat → P → Prop
  | stop {t : P} : t.hd ≠ "give" → Spine t 0 t
  | give {a b h : P} {n : Nat} : Spine a n h → Spine (.op "give" [a, b]) (n + 1) h
theorem spine_ex {F : List Str} : ∀ (n : Nat) (t : P), t.many ≤ n → t.okS F → ∃ k h, Spine t k h ∧ h.okS F ∧ h.hd ≠ "give"
  | 0, t, h, _ => by
    have := many_pos t
    omega
  | n + 1, t, h, ok => by
    by_cases e : t.hd = "give"
    · obtain ⟨a, b, rfl⟩ := hd_give ok e
      have hm : 1 + (a.many + (b.many + 0)) ≤ n + 1 := h
      have oa : a.okS F := (show _ ∧ (P.okS F a ∧ _) from ok).2.1
      obtain ⟨k, hh, h1, h2, h3⟩ := spine_ex n a (by omega) oa
      exact ⟨k + 1, hh, .give h1, h2, h3⟩
    · exact ⟨0, t, .stop e, ok, e⟩
/-- how many things the function of this name wants -/
def wantsOf (fs : List Fn) (f : Str) : Nat := match fs.find? (fun g => g.1 == f) with
  | some g => g.2.1.length
  | none => 0
theorem wants_at : ∀ {fs : List Fn} {i : Nat} {g : Fn}, (fs.map (·.1)).Nodup → fs[i]? = some g → wantsOf fs g.1 = g.2.1.length
  | [], i, g, _, h => by simp at h
  | f :: fs, 0, g, _, h => by
    obtain rfl : f = g := Option.some.inj h
    unfold wantsOf
    rw [List.find?_cons_of_pos (by simp)]
  | f :: fs, i + 1, g, nd, h => by
    have h' : fs[i]? = some g := h
    rw [List.map_cons, List.nodup_cons] at nd
    have hne : f.1 ≠ g.1 := fun e => nd.1 (List.mem_map.mpr ⟨g, List.mem_of_getElem? h', e.symm⟩)
    have q := wants_at nd.2 h'
    unfold wantsOf at q ⊢
    rw [List.find?_cons_of_neg (by simpa using hne)]
    exact q
def worthB (fs : List Fn) (n : Nat) (h : P) : Bool := match h with
  | .fn f => decide (n < wantsOf fs f)
  | h => decide (n = 0) && (decide (h.hd = "number") || decide (h.hd = "pair"))
theorem worth_fn (fs : List Fn) (n : Nat) (f : Str) : worthB fs n (.fn f) = decide (n < wantsOf fs f) := rfl
theorem worth_not {fs : List Fn} {n : Nat} {h : P} (e : h.hd ≠ "fun") : worthB fs n h = (decide (n = 0) && (decide (h.hd = "number") || decide (h.hd = "pair"))) := by
  cases h with
  | fn f => exact absurd rfl e
  | num _ => rfl
  | nam _ => rfl
  | op _ _ => rfl
  | lt _ _ _ => rfl
theorem wants_le {fs : List Fn} {f : Str} {m : Nat} (h : ∀ g, g ∈ fs → g.2.1.length ≤ m) : wantsOf fs f ≤ m := by
  unfold wantsOf
  cases e : fs.find? (fun g => g.1 == f) with
  | none => exact Nat.zero_le _
  | some g => exact h g (List.mem_of_find?_eq_some e)
/-- of what is within a part there are fewer -/
theorem inn_room {t a : P} (m : a ∈ t.inn) : a.many + t.inn.length ≤ t.many := by
  have h : ∀ as : List P, a ∈ as → a.many + as.length ≤ P.manys as + 1 := fun as => by
    induction as with
    | nil => exact fun m => nomatch m
    | cons x r ih =>
      intro m
      show a.many + (r.length + 1) ≤ x.many + P.manys r + 1
      have h1 := many_pos x
      have h2 := len_manys r
      rcases List.mem_cons.mp m with e | m
      · subst e; omega
      · have := ih m
        omega
  have h1 := h _ m
  rw [many_inn t]
  omega
theorem manys_le {c : Nat} : ∀ {as : List P}, (∀ a, a ∈ as → a.many ≤ c) → P.manys as ≤ c * as.length
  | [], _ => Nat.zero_le _
  | x :: r, h => by
    show x.many + P.manys r ≤ c * (r.length + 1)
    have h1 := h x List.mem_cons_self
    have h2 := manys_le (as := r) fun a m => h a (List.mem_cons_of_mem _ m)
    rw [Nat.mul_add]
    omega
end Lz

set_option Elab.async false
set_option linter.all false
set_option maxRecDepth 100000
set_option maxHeartbeats 4000000
/-! Parts and programs as they lie in the heap, of whatever kinds. -/
namespace Lz
open PySem PySem.Spec PyProof.Rows L2
section
variable {K : PySem.W.Frag} {H : Hp}
theorem hd_at {v : V} {t : Lz.P} (h : Dp K H v t.data) : ∃ a xs, v = .ref a ∧ SqT K H a (.str t.hd :: xs) ∧ DpAll K H xs t.tl := by
  rw [data_hd] at h
  obtain ⟨a, xs, rfl, ht, hx⟩ := h.tup_of
  cases hx with
  | cons h1 h2 =>
    cases h1
    exact ⟨a, _, rfl, ht, h2⟩
theorem op_atU {v : V} {k : Str} {as : List Lz.P} (h : Dp K H v (Lz.P.op k as).data) : ∃ a xs, v = .ref a ∧ SqT K H a (.str k :: xs) ∧ DpAll K H xs (Lz.P.datas as) := hd_at (t := .op k as) h
theorem str_at {v : V} {t : Lz.P} {x : Str} (h : Dp K H v t.data) (e : t.tl = [.str x]) : ∃ a, v = .ref a ∧ SqT K H a [.str t.hd, .str x] := by
  obtain ⟨a, xs, rfl, ht, hx⟩ := hd_at h
  rw [e] at hx
  cases hx with
  | cons h1 h2 =>
    cases h1
    cases h2
    exact ⟨a, rfl, ht⟩
theorem give_at {v : V} {a b : Lz.P} (h : Dp K H v (Lz.P.op "give" [a, b]).data) : ∃ p va vb, v = .ref p ∧ SqT K H p [.str "give", va, vb] ∧ Dp K H va a.data ∧ Dp K H vb b.data := by
  obtain ⟨p, xs, rfl, ht, hx⟩ := op_atU h
  cases hx with
  | cons h1 h2 =>
    cases h2 with
    | cons h3 h4 =>
      cases h4
      exact ⟨p, _, _, rfl, ht, h1, h3⟩
theorem let_atU {v : V} {nm : List Str} {as : List Lz.P} {b : Lz.P} (h : Dp K H v (Lz.P.lt nm as b).data) : ∃ a r rs vb, v = .ref a ∧ SqT K H a [.str "let", .ref r, vb] ∧ SqT K H r rs ∧ DpAll K H rs (List.zipWith rowD nm (Lz.P.datas as)) ∧ Dp K H vb b.data := by
  obtain ⟨a, xs, rfl, ht, hx⟩ := hd_at h
  cases hx with
  | cons h3 h4 =>
    obtain ⟨r, rs, rfl, hr, hrs⟩ := h3.tup_of
    cases h4 with
    | cons h5 h6 =>
      cases h6
      exact ⟨a, r, rs, _, rfl, ht, hr, hrs, h5⟩
theorem prog_at {v : V} {fs : List Fn} {d : Lz.P} (h : Dp K H v (progD fs d)) : ∃ pr ft rs vd, v = .ref pr ∧ SqT K H pr [.ref ft, vd] ∧ SqT K H ft rs ∧ DpAll K H rs (fs.map fD) ∧ Dp K H vd d.data := by
  obtain ⟨pr, xs, rfl, hpr, hxs⟩ := Dp.tup_of (ds := [.tuple (fs.map fD), d.data]) h
  cases hxs with
  | cons h1 h2 =>
    obtain ⟨ft, rs, rfl, hft, hrs⟩ := h1.tup_of
    cases h2 with
    | cons h3 h4 =>
      cases h4
      exact ⟨pr, ft, rs, _, rfl, hpr, hft, hrs, h3⟩
theorem strs_of : ∀ {ss : List Str} {rs : List V}, DpAll K H rs (ss.map .str) → rs = ss.map V.str
  | [], _, h => by cases h; rfl
  | s :: r, _, h => by
    cases h with
    | cons a b =>
      cases a
      rw [strs_of b]
      rfl
/-- a function's tuple -/
theorem fn_atU {xs : List V} {gs : List Fn} {i : Nat} {x : V} (h : DpAll K H xs (gs.map fD)) (hi : xs[i]? = some x) : ∃ g t r u, gs[i]? = some g ∧ x = .ref t ∧ SqT K H t [.str g.1, .ref r, u] ∧ SqT K H r (g.2.1.map V.str) ∧ Dp K H u g.2.2.data := by
  obtain ⟨e, he, hd⟩ := h.at hi
  rw [List.getElem?_map] at he
  obtain ⟨g, hg, rfl⟩ : ∃ g, gs[i]? = some g ∧ e = fD g := by
    cases e1 : gs[i]? with
    | none => rw [e1] at he; cases he
    | some y => rw [e1] at he; exact ⟨y, rfl, (Option.some.inj he).symm⟩
  obtain ⟨t, zs, rfl, ht, hzs⟩ := Dp.tup_of (ds := [.str g.1, .tuple (g.2.1.map .str), g.2.2.data]) hd
  cases hzs with
  | cons h1 h2 =>
    cases h1
    cases h2 with
    | cons h3 h4 =>
      obtain ⟨r, rs, rfl, hr, hrs⟩ := h3.tup_of
      rw [strs_of hrs] at hr
      cases h4 with
      | cons h5 h6 =>
        cases h6
        exact ⟨g, t, r, _, hg, rfl, ht, hr, h5⟩
theorem part_atU {xs : List V} {ts : List Lz.P} {i : Nat} {v : V} (h : DpAll K H xs (Lz.P.datas ts)) (hi : xs[i]? = some v) : ∃ d, ts[i]? = some d ∧ Dp K H v d.data := by
  obtain ⟨e, he, hd⟩ := h.at hi
  rw [datas_map, List.getElem?_map] at he
  cases ha : ts[i]? with
  | none => rw [ha] at he; cases he
  | some d =>
    rw [ha] at he
    obtain rfl : d.data = e := Option.some.inj he
    exact ⟨d, rfl, hd⟩
theorem row_atU {rs : List V} {nm : List Str} {as : List Lz.P} {i : Nat} {v : V} (h : DpAll K H rs (List.zipWith rowD nm (Lz.P.datas as))) (hi : rs[i]? = some v) : ∃ (t : Addr) (x : Str) (u : V) (d : Lz.P), v = .ref t ∧ SqT K H t [.str x, u] ∧ nm[i]? = some x ∧ as[i]? = some d ∧ Dp K H u d.data := by
  obtain ⟨e, he, hd⟩ := h.at hi
  rw [List.getElem?_zipWith] at he
  cases hx : nm[i]? with
  | none => rw [hx] at he; cases he
  | some x =>
    rw [hx, datas_map, List.getElem?_map] at he
    cases ha : as[i]? with
    | none => rw [ha] at he; cases he
    | some d =>
      rw [ha] at he
      obtain rfl : rowD x d.data = e := Option.some.inj he
      obtain ⟨t, xs, rfl, ht, hxs⟩ := Dp.tup_of (ds := [.str x, d.data]) hd
      cases hxs with
      | cons h1 h2 =>
        cases h1
        cases h2 with
        | cons h3 h4 =>
          cases h4
          exact ⟨t, x, _, d, rfl, ht, rfl, rfl, h3⟩
end
theorem cut_tlU (x : V) (xs : List V) : cutV (x :: xs) (some 1) none = xs := by
  unfold cutV
  rw [HT.sIx_none, show HT.sIx (x :: xs).length 0 (some 1) = min 1 (x :: xs).length from HT.sIx_nat _ _ 1]
  have e : min 1 (x :: xs).length = 1 := by rw [List.length_cons]; omega
  rw [e]
  exact List.take_of_length_le (by show xs.length ≤ (x :: xs).length - 1; rw [List.length_cons]; omega)
theorem not_wholeU (x : V) (xs : List V) : ¬ (HT.sIx (x :: xs).length 0 (some 1) = 0 ∧ HT.sIx (x :: xs).length (x :: xs).length none = (x :: xs).length) := fun h => by
  have e := h.1
  rw [show HT.sIx (x :: xs).length 0 (some 1) = min 1 (x :: xs).length from HT.sIx_nat _ _ 1, List.length_cons] at e
  omega
theorem inU (x : Str) : ∀ xs : List Str, inV (.str x) (xs.map V.str) = decide (x ∈ xs)
  | [] => by
    show false = _
    rw [decide_eq_false (fun m => nomatch m)]
  | y :: r => by
    have e : inV (.str x) ((y :: r).map V.str) = ((y == x) || inV (.str x) (r.map V.str)) := rfl
    rw [e, inU x r, Bool.eq_iff_iff, Bool.or_eq_true, beq_iff_eq, decide_eq_true_iff, decide_eq_true_iff, List.mem_cons]
    exact ⟨fun h => h.elim (fun h => .inl h.symm) .inr, fun h => h.elim (fun h => .inl h.symm) .inr⟩
theorem flatU (xs : List Str) : (xs.map V.str).all flatV = true := by
  rw [List.all_eq_true]
  intro z hz
  obtain ⟨s, _, rfl⟩ := List.mem_map.mp hz
  rfl
theorem progU_fz (fs : List Fn) (d : Lz.P) : fz (progD fs d) = true := by
  show (fzAll (fs.map fD) && (fz d.data && true)) = true
  rw [show fzAll (fs.map fD) = true from fzAll_iff.mpr fun e m => by
    obtain ⟨f, _, rfl⟩ := List.mem_map.mp m
    show (true && (fzAll (f.2.1.map .str) && (fz f.2.2.data && true))) = true
    rw [strs_fz, data_fz]
    rfl, data_fz]
  rfl
theorem fdU_fz (fs : List Fn) : fzAll (fs.map fD) = true := fzAll_iff.mpr fun e m => by
  obtain ⟨f, _, rfl⟩ := List.mem_map.mp m
  show (true && (fzAll (f.2.1.map .str) && (fz f.2.2.data && true))) = true
  rw [strs_fz, data_fz]
  rfl
theorem flenU {fs : List Fn} {d : Lz.P} (h : PrOk fs d) : (fnsOf fs d).length ≤ 9 := by
  have := h.len
  show (fs ++ [askedFn d]).length ≤ 9
  rw [List.length_append, List.length_singleton]
  omega
theorem PrOk.ndf {fs : List Fn} {d : Lz.P} (h : PrOk fs d) : (fs.map (·.1)).Nodup := by
  have q := h.nd
  unfold fnsOf at q
  rw [List.map_append, List.nodup_append] at q
  exact q.1
theorem fns_get {fs : List Fn} {d : Lz.P} {i : Nat} {g : Fn} (h : fs[i]? = some g) : (fnsOf fs d)[i]? = some g := by
  unfold fnsOf
  rw [List.getElem?_append_left (List.getElem?_eq_some_iff.mp h).1]
  exact h
theorem fn_get {fs : List Fn} {f : Str} (h : f ∈ fs.map (·.1)) : ∃ (i : Nat) (g : Fn), fs[i]? = some g ∧ g.1 = f := by
  obtain ⟨g, hg, rfl⟩ := List.mem_map.mp h
  obtain ⟨i, hi⟩ := List.mem_iff_getElem?.mp hg
  exact ⟨i, g, hi, rfl⟩
end Lz

set_option Elab.async false
set_option linter.all false
set_option maxRecDepth 100000
set_option maxHeartbeats 8000000
namespace Lz
open PySem PySem.Spec PyProof.Rows L2
theorem two_at {K : PySem.W.Frag} {H : Hp} {v : V} {k : Str} {e : PyData} (h : Dp K H v (.tuple [.str k, e])) : ∃ a u, v = .ref a ∧ SqT K H a [.str k, u] ∧ Dp K H u e := by
  obtain ⟨a, xs, rfl, ht, hx⟩ := h.tup_of
  cases hx with
  | cons h1 h2 =>
    cases h1
    cases h2 with
    | cons h3 h4 =>
      cases h4
      exact ⟨a, _, rfl, ht, h3⟩
def spRowNames (K : PySem.W.Frag) : Sp := fun vs H Q _ => ∃ (v : V) (t : Lz.P), vs = [v] ∧ Dp K H v t.data ∧ t.ok ∧ t.own.length ≤ 4 ∧ ∀ (l : Addr) (H' : Hp), Kp [] H H' → H l = none → H' l = some (.lst (t.own.map V.str)) → Q (.ref l) H'
theorem tag_let {K : PySem.W.Frag} {H : Hp} {v : V} {t : Lz.P} (h : Dp K H v t.data) (ok : t.ok) : (∃ a k vs, v = .ref a ∧ SqT K H a (.str k :: vs) ∧ k ≠ "let" ∧ t.own = []) ∨ ∃ nm as b, t = .lt nm as b := by
  cases t with
  | num i =>
    obtain ⟨a, u, rfl, ht, _⟩ := two_at (k := "number") (e := .int i) h
    exact .inl ⟨a, _, _, rfl, ht, by decide +kernel, rfl⟩
  | nam x =>
    obtain ⟨a, u, rfl, ht, _⟩ := two_at (k := "name") (e := .str x) h
    exact .inl ⟨a, _, _, rfl, ht, by decide +kernel, rfl⟩
  | fn x =>
    obtain ⟨a, u, rfl, ht, _⟩ := two_at (k := "fun") (e := .str x) h
    exact .inl ⟨a, _, _, rfl, ht, by decide +kernel, rfl⟩
  | op k as =>
    obtain ⟨a, vs, rfl, ht, _⟩ := op_atU h
    exact .inl ⟨a, _, _, rfl, ht, (kind_plain (show (k, as.length) ∈ kinds ∧ Lz.P.oks as from ok).1).1, rfl⟩
  | lt nm as b => exact .inr ⟨nm, as, b, rfl⟩
def spPlaces (K : PySem.W.Frag) : Sp := fun vs H Q _ => ∃ (pl : Int) (v : V) (t : Lz.P), vs = [.int pl, v] ∧ Dp K H v t.data ∧ t.ok ∧ t.many ≤ 1000 ∧ t.deep ≤ 12 ∧ ∀ (l : Addr) (zs : List Int) (H' : Hp), Kp [] H H' → H l = none → H' l = some (.lst (zs.map V.int)) → zs.length = t.inn.length → Q (.ref l) H'
section
variable {P : Program} {w : World} {K : PySem.W.Frag} {mg : Str → Option Value} {base : Heap} {f : Addr} {fd : FuncData}
abbrev sRowNames : Stmt := topS 3
theorem scRowNames : FnScope ["part", "row"] ["part"] (defScope sRowNames) := ⟨rfl, rfl, rfl, by decide +kernel, rfl, by decide +kernel, by decide +kernel⟩
theorem ok_rowNames (F : Fun K "row_names" "row_names" sRowNames f fd) : FnOk P w K mg base CX0 1 f fd ["part"] (spRowNames K) := by
  refine F.ok scRowNames (fun vs H Q E h => ?_) (fun cdv A outer s H vs Q E hr h => ?_)
  · obtain ⟨v, t, rfl, _⟩ := h
    rfl
  obtain ⟨v, t, rfl, hd, hok, h4, q⟩ := h
  refine ⟨_, (pss_cons (ps_if (pt_cmpR op_ne (pe_ix (ix_tupK (K := K) rfl) (pv 0) pe_int (fun _ _ => rfl)) pe_str (nomark _)) (pss_one (ps_ret (pe_lst pa_nil))) pss_nil)
    (pss_one (ps_ret (pe_lc (own := [("row", 1)]) rfl scRowNames.nd (pi_tupK (K := K) rfl (pe_ix (ix_tupK (K := K) rfl) (pv 0) pe_int (fun _ _ => rfl))) (blkOk_by (N := ["part", "row"]) (sc := defScope sRowNames) (by decide +kernel)) (fun _ _ _ _ _ => (pg_name (i := 1) scRowNames.nd rfl (.inl rfl))) (fun _ _ _ _ _ => pts_nil) (fun _ _ _ _ _ => (pe_ix (ix_tupK (K := K) rfl) (pv 1) pe_int (fun _ _ => rfl))))))), ?_⟩
  rcases tag_let hd hok with ⟨a, k, vs, rfl, ht, hk, hown⟩ | ⟨nm, as, b, rfl⟩
  · refine ⟨_, rfl, a, _, _, _, rfl, rfl, ht, at_of (j := 0) rfl rfl, rfl, _, rfl, ?_⟩
    refine ite2 (fun _ => ?_) (fun c => ?_)
    · refine ⟨Nat.zero_le _, fun l hl => q l _ (Kp.new hl) hl ?_⟩
      rw [hown]
      exact upd_same
    · rw [decide_eq_false (fun e => hk (V.str.inj e))] at c
      exact absurd rfl c
  · obtain ⟨a, r, rs, vb, rfl, ht, hrt, hrs, _⟩ := let_atU hd
    have hna : nm.length = as.length := hok.1
    have hrl : rs.length = nm.length := by rw [hrs.length, List.length_zipWith, datas_len]; omega
    have h4' : nm.length ≤ 4 := h4
    refine ⟨_, rfl, a, _, _, _, rfl, rfl, ht, at_of (j := 0) rfl rfl, rfl, _, rfl, ?_⟩
    refine ite2 (fun c => ?_) (fun _ => ?_)
    · rw [decide_eq_true rfl] at c
      cases c
    refine ⟨_, rfl, a, _, _, _, rfl, rfl, ht, at_of (j := 1) rfl rfl, r, rfl, ⟨_, hrt⟩, fun D hD => ?_⟩
    refine lc_tup (K := K) (a := r) (xs := rs) (fun i H' => Kp [] H H' ∧ H' D = some (.lst ((nm.take i).map V.str)))
      ⟨Kp.new hD, upd_same⟩ (fun i H' _ ⟨k, _⟩ => k.sqT hrt) ?_ ?_
    · rintro i x H1 hi ⟨k1, h1⟩
      obtain ⟨t, nx, u, d, rfl, htt, hnx, _, _⟩ := row_atU (Dp.keepAll k1 _ _ rows_fz hrs) hi
      refine ⟨rfl, ?_⟩
      refine ⟨_, rfl, t, _, _, _, rfl, rfl, htt, at_of (j := 0) rfl rfl, _, h1, ?_, k1.mut hD, ?_⟩
      · rw [List.length_map, List.length_take]
        exact small1000 (by omega)
      · rw [upd_same, List.take_add_one, hnx, List.map_append]
        rfl
    · rintro H1 ⟨k1, h1⟩
      rw [hrl, List.take_length] at h1
      exact q D H1 k1 hD h1
abbrev sInnerPlaces : Stmt := topS 10
theorem scInnerPlaces : FnScope ["place", "part", "found", "behind", "inner"] ["place", "part"] (defScope sInnerPlaces) := ⟨rfl, rfl, rfl, by decide +kernel, rfl, by decide +kernel, by decide +kernel⟩
theorem ok_places {j : Nat} (hj : 1 ≤ j) (F : Fun K "inner_places" "inner_places" sInnerPlaces f fd) (CWithin : C8.Cal P w K mg base 1 "within" (spInn K) []) (CManyIn : C8.Cal P w K mg base j "many_in" (spMany K 12) []) : FnOk P w K mg base CX0 (j + 1) f fd ["place", "part"] (spPlaces K) := by
  refine F.ok scInnerPlaces (fun vs H Q E h => ?_) (fun cdv A outer s H vs Q E hr h => ?_)
  · obtain ⟨pl, v, t, rfl, _⟩ := h
    rfl
  obtain ⟨pl, v, t, rfl, hd, hok, hmany, hdeep, q⟩ := h
  refine ⟨_, (pss_cons (ps_set (i := 2) scInnerPlaces.nd rfl (.inl rfl) (pe_lst pa_nil))
    (pss_cons (ps_set (i := 3) scInnerPlaces.nd rfl (.inl rfl) (pe_op op_add (pv 0) pe_int))
    (pss_cons (ps_for PassesOwn.never rfl (pi_listK (K := K) rfl (C8.pe_c CWithin hr (by first | decide | omega) (by rfl) (pa_cons (pv 1) pa_nil))) (pg_name (i := 4) scInnerPlaces.nd rfl (.inl rfl)) (pss_cons (ps_expr (pe_bmK (K := K) rfl PySem.F.plainAttrs_list PySem.F.slot_list_append PySem.F.type_list_append mt_append (pv 2) (pa_cons (pv 3) pa_nil)))
    (pss_one (ps_aug (i := 3) scInnerPlaces.nd rfl (.inl rfl) (C8.pe_c CManyIn hr (by first | decide | omega) (by rfl) (pa_cons (pv 4) pa_nil)) ip_add))))
    (pss_one (ps_ret (pv 2)))))), ?_⟩
  refine ⟨Nat.zero_le _, fun L hL => ?_⟩
  have k1 : Kp [] H (upd H L (.lst [])) := Kp.new hL
  have hL1 : (upd H L (.lst [])) L = some (.lst (([] : List Int).map V.int)) := upd_same
  have hd1 := Dp.keep k1 _ _ (data_fz _) hd
  generalize upd H L (.lst []) = H1 at k1 hL1 hd1 ⊢
  refine ⟨_, rfl, _, _, rfl, rfl, ?_⟩
  have hlen := inn_len hmany
  refine ⟨_, rfl, v, t, rfl, hd1, hok, hmany, fun l xs H2 k2 hl0 hl hx => ?_⟩
  have hL2 := k2.lst hL1 (fun m => nomatch m)
  have nLl : L ≠ l := fun e => by rw [← e, hL1] at hl0; cases hl0
  have hxl : xs.length = t.inn.length := by rw [hx.length, datas_len]
  refine ⟨l, rfl, ⟨_, SqL.of hl⟩, for_list (K := K) (a := l) (xs := xs) (fun i σ H' => ∃ (b : Int) (v4 : Option V) (zs : List Int), σ = [some (.int pl), some v, some (.ref L), some (.int b), v4] ∧ Kp [] H H' ∧ H' L = some (.lst (zs.map V.int)) ∧ H' l = some (.lst xs) ∧ DpAll K H' xs (Lz.P.datas t.inn) ∧ zs.length = i)
    ⟨_, _, [], rfl, k1.trans k2, hL2, hl, hx, rfl⟩ (fun i σ H' _ ⟨_, _, _, _, _, _, h, _⟩ => SqL.of h) ?_ ?_⟩
  · rintro i x σ H3 hi ⟨b, v4, zs, rfl, k3, hL3, hl3, hx3, hz⟩
    have hil := (List.getElem?_eq_some_iff.mp hi).1
    obtain ⟨d, had, hdd⟩ := at_inn hx3 hi
    obtain ⟨dok, dm, ddp⟩ := inn_fits (n := 11) hok hmany (by omega) had
    refine ⟨_, rfl, .inl ⟨rfl, _, SqL.of hL3⟩, _, rfl, L, _, _, rfl, rfl, hL3, small1000 (by rw [List.length_map]; omega), ?_⟩
    have kk : Kp [L] H3 (upd H3 L (.lst (zs.map V.int ++ [.int b]))) := Kp.put hL3 List.mem_cons_self
    have hl4 := kk.lst hl3 (fun m => nLl (List.mem_singleton.mp m).symm)
    have hd4 := Dp.keep kk _ _ (data_fz _) hdd
    have hx4 := Dp.keepAll kk _ _ (datas_fz _) hx3
    have hL4 : (upd H3 L (.lst (zs.map V.int ++ [.int b]))) L = some (.lst ((zs ++ [b]).map V.int)) := by rw [upd_same, List.map_append]; rfl
    have k4 := k3.mut hL (o := .lst (zs.map V.int ++ [.int b]))
    generalize upd H3 L (.lst (zs.map V.int ++ [.int b])) = H4 at hl4 hd4 hx4 hL4 k4 ⊢
    refine ⟨_, rfl, _, rfl, x, d, rfl, hd4, dok, dm, by omega, fun H5 k5 => ?_⟩
    refine ⟨_, _, rfl, rfl, ?_⟩
    exact ⟨_, _, zs ++ [b], rfl, k4.trans k5, k5.lst hL4 (fun m => nomatch m), k5.lst hl4 (fun m => nomatch m), Dp.keepAll k5 _ _ (datas_fz _) hx4, by rw [List.length_append, hz]; rfl⟩
  · rintro σ H3 ⟨b, v4, zs, rfl, k3, hL3, hl3, hx3, hz⟩
    exact ⟨_, rfl, q L zs H3 k3 hL hL3 (hz.trans hxl)⟩
end
end Lz

set_option Elab.async false
set_option linter.all false
set_option maxRecDepth 100000
set_option maxHeartbeats 8000000
namespace Lz
open PySem PySem.Spec PyProof.Rows L2
def spAll (K : PySem.W.Frag) (n : Nat) : Sp := fun vs H Q _ => ∃ (v : V) (t : Lz.P), vs = [v] ∧ Dp K H v t.data ∧ t.ok ∧ t.many ≤ 1000 ∧ t.deep ≤ n ∧ ∀ (l : Addr) (xs : List V) (H' : Hp), Kp [] H H' → H l = none → H' l = some (.lst xs) → DpAll K H' xs (Lz.P.datas t.all) → Q (.ref l) H'
theorem alls_rev (ti : List Lz.P) (o : Lz.P) : Lz.P.alls (ti ++ [o]).reverse = o :: Lz.P.alls (ti ++ o.inn.reverse).reverse := by
  rw [List.reverse_append, List.reverse_append, List.reverse_reverse]
  show Lz.P.alls ([o] ++ ti.reverse) = _
  rw [alls_append, alls_append]
  show (o.all ++ []) ++ _ = _
  rw [List.append_nil, all_inn o]
  rfl
theorem DpAll.reverse {K : PySem.W.Frag} {H : Hp} : ∀ {vs : List V} {ds : List PyData}, DpAll K H vs ds → DpAll K H vs.reverse ds.reverse
  | _, _, .nil => .nil
  | _, _, .cons h t => by
    rw [List.reverse_cons, List.reverse_cons]
    exact (DpAll.reverse t).append (.one h)
theorem DpAll.snoc {K : PySem.W.Frag} {H : Hp} {ys : List V} {ds : List PyData} {d : PyData} (h : DpAll K H ys (ds ++ [d])) : ∃ yi v, ys = yi ++ [v] ∧ DpAll K H yi ds ∧ Dp K H v d := by
  have h1 := h.take ds.length
  have h2 := h.drop ds.length
  rw [List.take_left] at h1
  rw [List.drop_left] at h2
  have e := (List.take_append_drop ds.length ys).symm
  generalize ys.drop ds.length = zs at h2 e
  cases h2 with
  | cons h3 h4 =>
    cases h4
    exact ⟨_, _, e, h1, h3⟩
theorem revLK {X : Cx} {K : PySem.W.Frag} {e : Expr} {te : TE} {k : Nat} {p1 p2 p3 pos : Pos} (h : X.K = K) (he : PE X e te) : PE X (.Subscript e (.Slice none none (some (.UnaryOp .USub (.Constant (.int 1) k p1) p2)) p3) pos) (tRevL K te) := by subst h; exact pe_revL he
section
variable {P : Program} {w : World} {K : PySem.W.Frag} {mg : Str → Option Value} {base : Heap} {f : Addr} {fd : FuncData}
abbrev sAllIn : Stmt := topS 5
theorem scAllIn : FnScope ["part", "found", "waiting", "one"] ["part"] (defScope sAllIn) := ⟨rfl, rfl, rfl, by decide +kernel, rfl, by decide +kernel, by decide +kernel⟩
theorem ok_all {n : Nat} (F : Fun K "all_in" "all_in" sAllIn f fd) (CWithin : C8.Cal P w K mg base 1 "within" (spInn K) []) : FnOk P w K mg base CX0 2 f fd ["part"] (spAll K n) := by
  refine F.ok scAllIn (fun vs H Q E h => ?_) (fun cdv A outer s H vs Q E hr h => ?_)
  · obtain ⟨v, t, rfl, _⟩ := h
    rfl
  obtain ⟨v, t, rfl, hd, hok, hmany, hdeep, q⟩ := h
  refine ⟨_, (pss_cons (ps_set (i := 1) scAllIn.nd rfl (.inl rfl) (pe_lst pa_nil))
    (pss_cons (ps_set (i := 2) scAllIn.nd rfl (.inl rfl) (pe_lst (pa_cons (pv 0) pa_nil)))
    (pss_cons (ps_while PassesOwn.never (pt_truthK (K := K) rfl (pv 2) (fun _ => rfl)) (pss_cons (ps_set (i := 3) scAllIn.nd rfl (.inl rfl) (pe_bm0K (K := K) rfl PySem.F.plainAttrs_list PySem.F.slot_list_pop PySem.F.type_list_pop mt_pop (pv 2)))
    (pss_cons (ps_expr (pe_bmK (K := K) rfl PySem.F.plainAttrs_list PySem.F.slot_list_append PySem.F.type_list_append mt_append (pv 1) (pa_cons (pv 3) pa_nil)))
    (pss_one (ps_expr (pe_bmK (K := K) rfl PySem.F.plainAttrs_list PySem.F.slot_list_extend PySem.F.type_list_extend mt_extend (pv 2) (pa_cons (revLK (K := K) rfl (C8.pe_c CWithin hr (by first | decide | omega) (by rfl) (pa_cons (pv 3) pa_nil))) pa_nil)))))))
    (pss_one (ps_ret (pv 1)))))), ?_⟩
  refine ⟨Nat.zero_le _, fun lf hlf => ?_⟩
  have k1 : Kp [] H (upd H lf (.lst [])) := Kp.new hlf
  have hf1 : (upd H lf (.lst [])) lf = some (.lst []) := upd_same
  have hd1 := Dp.keep k1 _ _ (data_fz _) hd
  generalize upd H lf (.lst []) = H1 at k1 hf1 hd1 ⊢
  refine ⟨_, rfl, (by show 1 ≤ sizeLine; decide), fun lw hlw => ?_⟩
  have kx : Kp [] H1 (upd H1 lw (.lst [v])) := Kp.new hlw
  have hf2 := kx.lst hf1 (fun m => nomatch m)
  have hw2 : (upd H1 lw (.lst [v])) lw = some (.lst [v]) := upd_same
  have hd2 := Dp.keep kx _ _ (data_fz _) hd1
  have nwf : lf ≠ lw := ne_of_none hf1 hlw
  have hlwH : H lw = none := k1.free hlw (fun m => nomatch m)
  have k2 := k1.trans kx
  generalize upd H1 lw (.lst [v]) = H2 at k2 hf2 hw2 hd2 ⊢
  have hall := all_len t
  refine ⟨fun m σ H' => ∃ (v3 : Option V) (ys ws : List V) (us ts : List Lz.P), σ = [some v, some (.ref lf), some (.ref lw), v3] ∧ Kp [] H H' ∧ H' lf = some (.lst ys) ∧ H' lw = some (.lst ws) ∧ DpAll K H' ys (Lz.P.datas us) ∧ DpAll K H' ws (Lz.P.datas ts) ∧ us ++ Lz.P.alls ts.reverse = t.all ∧ (∀ a, a ∈ ts → a.ok ∧ a.many ≤ 1000) ∧ m = Lz.P.manys ts,
    ⟨_, none, [], [v], [], [t], rfl, k2, hf2, hw2, .nil, .one hd2, ?_, fun a m => ?_, rfl⟩, ?_⟩
  · show Lz.P.alls ([t] : List Lz.P) = t.all
    exact List.append_nil _
  · rw [List.mem_singleton.mp m]
    exact ⟨hok, hmany⟩
  rintro m σ H3 ⟨v3, ys, ws, us, ts, rfl, k3, hf3, hw3, hdy, hdw, heq, hts, rfl⟩
  refine ⟨_, rfl, !ws.isEmpty, .inl ⟨ws, SqL.of hw3, rfl⟩, ?_⟩
  rcases List.eq_nil_or_concat ts with e1 | ⟨ti, o, e1⟩
  · subst e1
    cases hdw
    have e : us = t.all := by
      rw [← heq]
      exact (List.append_nil us).symm
    rw [e] at hdy
    exact ⟨_, rfl, q lf ys H3 k3 hlf hf3 hdy⟩
  rw [List.concat_eq_append] at e1
  subst e1
  have eds : Lz.P.datas (ti ++ [o]) = Lz.P.datas ti ++ [o.data] := by rw [datas_map, datas_map, List.map_append]; rfl
  rw [eds] at hdw
  obtain ⟨wi, vo, rfl, hwi, hvo⟩ := DpAll.snoc hdw
  have hne : (!(wi ++ [vo]).isEmpty) = true := by cases wi <;> rfl
  rw [if_pos hne]
  obtain ⟨ook, om⟩ := hts o (List.mem_append_right _ List.mem_cons_self)
  have hmt : Lz.P.manys (ti ++ [o]) = Lz.P.manys ti + o.many := by rw [manys_append]; rfl
  have hmo := many_inn o
  rw [alls_rev] at heq
  have hlen : us.length + (Lz.P.alls (ti ++ o.inn.reverse).reverse).length + 1 = t.many := by
    rw [← hall, ← heq, List.length_append, List.length_cons]
    omega
  have hlen2 : (Lz.P.alls (ti ++ o.inn.reverse).reverse).length = Lz.P.manys (ti ++ o.inn.reverse).reverse := alls_len _
  have hlen3 := len_manys (ti ++ o.inn.reverse).reverse
  rw [List.length_reverse, List.length_append, List.length_reverse] at hlen3
  refine ⟨fun σ' H' => ∃ m', m' < Lz.P.manys (ti ++ [o]) ∧ ∃ (v3 : Option V) (ys ws : List V) (us ts : List Lz.P), σ' = [some v, some (.ref lf), some (.ref lw), v3] ∧ Kp [] H H' ∧ H' lf = some (.lst ys) ∧ H' lw = some (.lst ws) ∧ DpAll K H' ys (Lz.P.datas us) ∧ DpAll K H' ws (Lz.P.datas ts) ∧ us ++ Lz.P.alls ts.reverse = t.all ∧ (∀ a, a ∈ ts → a.ok ∧ a.many ≤ 1000) ∧ m' = Lz.P.manys ts, fun σ' H' h => h, ?_⟩
  refine ⟨_, rfl, .inl ⟨rfl, _, SqL.of hw3⟩, lw, _, vo, rfl, rfl, hw3, ?_, ?_⟩
  · rw [List.length_append]
    show (wi ++ [vo])[wi.length + 1 - 1]? = some vo
    rw [Nat.add_sub_cancel, List.getElem?_append_right (Nat.le_refl _), Nat.sub_self]
    rfl
  rw [List.dropLast_concat]
  have kw : Kp [lw] H3 (upd H3 lw (.lst wi)) := Kp.put hw3 List.mem_cons_self
  have k4 : Kp [] H (upd H3 lw (.lst wi)) := k3.mut hlwH
  have hf4 : (upd H3 lw (.lst wi)) lf = some (.lst ys) := kw.lst hf3 (not1 nwf)
  have hw4 : (upd H3 lw (.lst wi)) lw = some (.lst wi) := upd_same
  have hdy4 := Dp.keepAll kw _ _ (datas_fz _) hdy
  have hwi4 := Dp.keepAll kw _ _ (datas_fz _) hwi
  have hvo4 := Dp.keep kw _ _ (data_fz _) hvo
  generalize upd H3 lw (.lst wi) = H4 at k4 hf4 hw4 hdy4 hwi4 hvo4 ⊢
  have hyl : ys.length = us.length := by rw [hdy.length, datas_len]
  refine ⟨_, rfl, .inl ⟨rfl, _, SqL.of hf4⟩, _, rfl, lf, _, _, rfl, rfl, hf4, small1000 (by omega), ?_⟩
  have kf : Kp [lf] H4 (upd H4 lf (.lst (ys ++ [vo]))) := Kp.put hf4 List.mem_cons_self
  have k5 : Kp [] H (upd H4 lf (.lst (ys ++ [vo]))) := k4.mut hlf
  have hf5 : (upd H4 lf (.lst (ys ++ [vo]))) lf = some (.lst (ys ++ [vo])) := upd_same
  have hw5 : (upd H4 lf (.lst (ys ++ [vo]))) lw = some (.lst wi) := kf.lst hw4 (not1 nwf.symm)
  have hdy5 : DpAll K (upd H4 lf (.lst (ys ++ [vo]))) (ys ++ [vo]) (Lz.P.datas (us ++ [o])) := by
    have e : Lz.P.datas (us ++ [o]) = Lz.P.datas us ++ [o.data] := by rw [datas_map, datas_map, List.map_append]; rfl
    rw [e]
    exact (Dp.keepAll kf _ _ (datas_fz _) hdy4).append (.one (Dp.keep kf _ _ (data_fz _) hvo4))
  have hwi5 := Dp.keepAll kf _ _ (datas_fz _) hwi4
  have hvo5 := Dp.keep kf _ _ (data_fz _) hvo4
  generalize upd H4 lf (.lst (ys ++ [vo])) = H5 at k5 hf5 hw5 hdy5 hwi5 hvo5 ⊢
  refine ⟨_, rfl, .inl ⟨rfl, _, SqL.of hw5⟩, _, rfl, vo, o, rfl, hvo5, ook, om, fun l xs H6 k6 hl0 hl1 hdx => ?_⟩
  have hf6 := k6.lst hf5 (fun m => nomatch m)
  have hw6 := k6.lst hw5 (fun m => nomatch m)
  have hxl : xs.length = o.inn.length := by rw [hdx.length, datas_len]
  have hinl := inn_len om
  refine ⟨l, xs, rfl, SqL.of hl1, fun lr hlr => ?_⟩
  have kr : Kp [] H6 (upd H6 lr (.lst xs.reverse)) := Kp.new hlr
  have hf7 := kr.lst hf6 (fun m => nomatch m)
  have hw7 := kr.lst hw6 (fun m => nomatch m)
  have hr7 : (upd H6 lr (.lst xs.reverse)) lr = some (.lst xs.reverse) := upd_same
  have hdx7 := DpAll.reverse (Dp.keepAll kr _ _ (datas_fz _) hdx)
  have k57 := k6.trans kr
  generalize upd H6 lr (.lst xs.reverse) = H7 at hf7 hw7 hr7 hdx7 k57 ⊢
  have hwl : wi.length = ti.length := by rw [hwi.length, datas_len]
  refine ⟨lw, lr, _, _, rfl, rfl, hw7, hr7, ?_, ?_⟩
  · rw [List.length_reverse]
    exact Nat.le_of_lt (small1000 (by omega))
  have kw7 : Kp [lw] H7 (upd H7 lw (.lst (wi ++ xs.reverse))) := Kp.put hw7 List.mem_cons_self
  have er : (Lz.P.datas o.inn).reverse = Lz.P.datas o.inn.reverse := by rw [datas_map, datas_map, List.map_reverse]
  rw [er] at hdx7
  have ea : Lz.P.datas (ti ++ o.inn.reverse) = Lz.P.datas ti ++ Lz.P.datas o.inn.reverse := by rw [datas_map, datas_map, datas_map, List.map_append]
  refine ⟨Lz.P.manys (ti ++ o.inn.reverse), ?_, _, ys ++ [vo], wi ++ xs.reverse, us ++ [o], ti ++ o.inn.reverse, rfl, (k5.trans k57).mut hlwH, kw7.lst hf7 (not1 nwf), upd_same, Dp.keepAll ((k57.mono fun _ m => nomatch m).trans kw7) _ _ (datas_fz _) hdy5, ?_, ?_, fun a m => ?_, rfl⟩
  · have e : Lz.P.manys o.inn.reverse = Lz.P.manys o.inn := by
      rw [manys_map, manys_map, List.map_reverse, List.sum_reverse]
    rw [manys_append, hmt, e]
    omega
  · rw [ea]
    exact (Dp.keepAll ((k57.mono fun _ m => nomatch m).trans kw7) _ _ (datas_fz _) hwi5).append (Dp.keepAll kw7 _ _ (datas_fz _) hdx7)
  · rw [List.append_assoc]
    exact heq
  · rcases List.mem_append.mp m with m | m
    · exact hts a (List.mem_append_left _ m)
    · have m := List.mem_reverse.mp m
      have := inn_room m
      exact ⟨inn_ok ook a m, by omega⟩
end
end Lz

set_option Elab.async false
set_option linter.all false
set_option maxRecDepth 100000
set_option maxHeartbeats 4000000
/-! enumerate(list, start=k) as a rule of the hand layer. -/
namespace EnS
open PySem PySem.Spec PyProof.Rows L2
/-- a built-in class called with keywords -/
theorem kw_class {M : Model} {A : Around} {E : Value → Shared → Prop} {s : Shared} {env : Env} {at_ : Pos} {T : String} {e : Expr} {more : List Expr} {kws : List Keyword} {Q : Value → Shared → Prop}
    (h : wpAny M A (spliced (backTo at_ (starEach (e :: more) env))) (fun us s1 => wpAny M A (evalAll ((backToKw at_ (keywordEach kws env)).map (·.2)))
      (fun ws s2 => wpAny M A (call (.type T) us (((backToKw at_ (keywordEach kws env)).filterMap (·.1)).zip ws)) Q E s2) E s1) E s)
    (h1 : backTo at_ (starEach (e :: more) env) = (false, eval e env) :: backTo at_ (starEach more env)) (h2 : (backTo at_ (starEach (e :: more) env)).any (·.1) = false)
    (h3 : (backToKw at_ (keywordEach kws env)).all (·.1.isSome) = true) (h4 : (backToKw at_ (keywordEach kws env)).any (·.1.isNone) = false) :
    wpAny M A (callWith at_ (.type T) [] (backTo at_ (starEach (e :: more) env)) (backToKw at_ (keywordEach kws env))) Q E s := by
  have ev : wpAny M A (evalArgs (.type T) true (backTo at_ (starEach (e :: more) env)) (backToKw at_ (keywordEach kws env))) (fun a s1 => wpAny M A (call (.type T) a.pos a.kw) Q E s1) E s := by
    rw [h1] at h ⊢
    exact evalArgs_kwB h3 h
  unfold callWith
  refine wpAny_bind (wpAny_holding (wpAny_mono ev (fun a s1 g => wpAny_bind (wpAny_standAt ?_)) fun _ _ z => z))
  simp only [h2, h4, Bool.or_false]
  exact wpAny_bind (wpAny_pure (wpAny_bind (wpAny_mono g (fun r s2 hr => wpAny_bind (wpAny_holding (wpAny_point (wpAny_pure hr)))) fun _ _ z => z)))
/-- the list at a, its items counted from k on -/
def ItS (K : PySem.W.Frag) (a : Addr) (k : Int) : It where
  go i H := ∃ (xs : List V) (x : V), SqL K H a xs ∧ xs[i]? = some x
  yld i H v H' := ∃ T x, v = .ref T ∧ H T = none ∧ H' = upd H T (.tup [.int (k + (i : Nat)), x]) ∧ ∀ xs, SqL K H a xs → xs[i]? = some x
  stop i H := ∃ xs : List V, SqL K H a xs ∧ xs.length = i
theorem two {b e it : Addr} (h : b ∈ [e, it]) : b = e ∨ b = it := by simpa using h
theorem turns {P : Program} {w : World} {K : PySem.W.Frag} {elts : List Expr} {kk : Nat} {tpos : Pos} (a e it : Addr) (k : Int) :
    Turn P w K (.Tuple elts kk tpos) (ItS K a k) [e, it] e (fun i h => (∃ old, IsEnum h e it (k + (i : Nat)) old) ∧ h.IsListIter it a i ∧ e ≠ it ∧ a ≠ it ∧ a ≠ e) where
  mem := List.mem_cons_self
  obj := fun i h st b hb => by
    obtain ⟨⟨old, he⟩, ⟨o, ho, _, hd⟩, _⟩ := st
    rcases two hb with rfl | rfl
    · exact ⟨_, he, fun v q => nomatch q⟩
    · refine ⟨o, ho, fun v q => ?_⟩
      rw [hd] at q
      cases q
  keep := fun i h h' st c => by
    obtain ⟨⟨old, he⟩, hi, r⟩ := st
    exact ⟨⟨old, c e List.mem_cons_self _ he⟩, hi.at fun o q => c it (List.mem_cons_of_mem _ List.mem_cons_self) o q, r⟩
  item := by
    intro X hP hw hK hc i pins s σ H E I hf st hg
    subst hP hw hK
    obtain ⟨⟨old, he⟩, hit, hne, hai, hae⟩ := st
    obtain ⟨xs, x, hq, hx⟩ := hg
    obtain ⟨its, rv, p, _⟩ := I.list hq
    obtain ⟨u, hu, ru⟩ := rv.get hx
    have hu' : its.toArray[i]? = some u := by simpa using hu
    have hin : i < its.toArray.size := (Array.getElem?_eq_some_iff.mp hu').1
    have below : ∀ b, b ∈ [e, it] → b < s.heap.objs.size := fun b hb => by
      rcases two hb with rfl | rfl
      · exact Heap.lt_size he
      · obtain ⟨_, q, _⟩ := hit
        exact Heap.lt_size q
    have D := Draws.list (prog := X.prog) (w := X.w) (A := X.A.in1) (I.ok.hd hc) it a hai its.toArray
    refine wpAny_pyNext_enum_itemC D he ⟨hit, p.isList⟩ hin hne (fun m => ?_) fun y h' tk hy out st' hT hsz hk => ?_
    · rcases List.mem_cons.mp m with z | m
      · exact hne z
      · exact hae (List.mem_singleton.mp m).symm
    obtain rfl : u = y := Option.some.inj (hu'.symm.trans hy)
    refine ⟨_, rfl, wpAny_letOwnedTupleGo_enum (s := { s with heap := h', toks := tk + 1 }) out fun h2 he2 sb => ?_⟩
    have hT2 : h2.get? s.heap.objs.size = some { cls := .type "tuple", data := .seq #[.int (k + (i : Nat)) tk, u] } := (sb.2 _ (Nat.ne_of_gt (below e List.mem_cons_self))).trans hT
    have new : ObjOk X.prog X.w (upd H s.heap.objs.size (.tup [.int (k + (i : Nat)), x])) h2 s.heap.objs.size (.tup [.int (k + (i : Nat)), x]) :=
      ⟨by show 2 ≤ sizeLine; decide, [.int (k + (i : Nat)) tk, u], .cons ⟨_, rfl⟩ (.cons ru .nil), ⟨_, hT2, rfl, _, rfl⟩⟩
    have I2 : Inv X pins σ (upd H s.heap.objs.size (.tup [.int (k + (i : Nat)), x])) { s with heap := h2, toks := tk + 1 } := by
      refine I.turnedNew (ch := [e, it]) (fun b ob hb q => ?_) hf (Nat.le_refl _) new
      have n1 : b ≠ e := fun z => hb (by rw [z]; exact List.mem_cons_self)
      have n2 : b ≠ it := fun z => hb (by rw [z]; exact List.mem_cons_of_mem _ List.mem_cons_self)
      exact (sb.2 b n1).trans (hk b ob n1 n2 q)
    refine ⟨.ref s.heap.objs.size, _, I2, rfl, ⟨_, x, rfl, I.hok.fresh (Nat.le_refl _), rfl, fun ys hy => ?_⟩, ⟨⟨u, ?_⟩, st'.1.at fun o q => (sb.2 it hne.symm).trans q, hne, hai, hae⟩, fun b hb => ?_⟩
    · rw [I.list_inj hy hq]
      exact hx
    · rw [show k + ((i + 1 : Nat) : Int) = k + (i : Nat) + 1 by omega]
      exact he2
    · rw [upd_ne (Nat.ne_of_lt (below b hb))]
      exact (hf b hb).1
  done := by
    intro X hP hw hK hc i pins s σ H E I hf st hg
    subst hP hw hK
    obtain ⟨⟨old, he⟩, hit, hne, hai, hae⟩ := st
    obtain ⟨xs, hq, hx⟩ := hg
    obtain ⟨its, rv, p, _⟩ := I.list hq
    obtain ⟨f0, f1, f2, f3, f4, f5⟩ := hf it (List.mem_cons_of_mem _ List.mem_cons_self)
    have hl := rv.length
    have D := Draws.list (prog := X.prog) (w := X.w) (A := X.A.in1) (I.ok.hd hc) it a hai its.toArray
    have hz : i = its.toArray.size := by rw [List.size_toArray]; omega
    rw [hz] at hit
    exact wpAny_pyNext_enum_endD D he ⟨hit, p.isList⟩ fun h' eb => ⟨rfl, I.turned (t' := s.toks) (fun b o hb q => eb b o hb q) f0 f1 f3 f4 f5⟩
  self := fun A i s Q E st h => by
    obtain ⟨⟨_, he⟩, _⟩ := st
    exact wpAny_pyIter_enum he h
def iFrom (K : PySem.W.Frag) (ta tk : TA) : TI := fun σ H R => ta σ H fun vs H1 => tk σ H1 fun zs H2 => ∃ a xs k, vs = [.ref a] ∧ zs = [.int k] ∧ SqL K H2 a xs ∧ 0 ≤ k ∧ k < 2 ^ 62 ∧ R (ItS K a k) H2
theorem pi_from {X : Cx} {K : PySem.W.Frag} {e e2 : Expr} {ta tk : TA} {p pos kpos tpos : Pos} {elts : List Expr} {kk : Nat} (h : X.K = K) (hg : Gl X "enumerate") (hm : X.mg "enumerate" = none) (ha : PA X [e] ta) (hk : PK X [⟨some "start", e2, kpos⟩] tk)
    (h1 : backTo pos (starEach [e] X.env) = (false, eval e X.env) :: backTo pos (starEach [] X.env) := by rfl) (h2 : (backTo pos (starEach [e] X.env)).any (·.1) = false := by rfl)
    (h3 : (backToKw pos (keywordEach [⟨some "start", e2, kpos⟩] X.env)).all (·.1.isSome) = true := by rfl) (h4 : (backToKw pos (keywordEach [⟨some "start", e2, kpos⟩] X.env)).any (·.1.isNone) = false := by rfl)
    (h5 : (backToKw pos (keywordEach [⟨some "start", e2, kpos⟩] X.env)).filterMap (·.1) = [("start" : Str)] := by rfl) :
    PI X (.Tuple elts kk tpos) (.Call (.Name "enumerate" p) [e] [⟨some "start", e2, kpos⟩] pos) (iFrom K ta tk) := by
  subst h
  refine ⟨fun pins s σ H R I h => wpAny_Call_Name_kw (ld_blt I hg hm boot_enumerate (kw_class (thn (ha.run pos pins s σ H _ I h) fun us s1 ⟨vs, H1, I1, r1, q1⟩ => thn (hk.run pos pins s1 σ H1 _ I1 q1) fun ws s2 ⟨zs, H2, I2, r2, q2⟩ => ?_) h1 h2 h3 h4))⟩
  obtain ⟨a, xs, k, rfl, rfl, hq, k0, k1, q⟩ := q2
  rw [h5]
  cases r1 with
  | cons ra rr =>
    cases rr
    cases ra
    cases r2 with
    | cons rk rr =>
      cases rr
      obtain ⟨t, rfl⟩ := rk
      obtain ⟨its, rv, p, _⟩ := I2.list hq
      refine enum_begins_start (begins_list a its.toArray) p.isList (by omega) (by omega) fun h' he hit hsz hk => wpAny_pyIter_enum he ?_
      have I3 : Inv X pins σ H2 { s2 with heap := h' } := I2.kept (t' := s2.toks) hk
      have al := p.lt
      refine ⟨s2.heap.objs.size + 1, [s2.heap.objs.size + 1, s2.heap.objs.size], _, _, H2, rfl, I3, turns a (s2.heap.objs.size + 1) s2.heap.objs.size k, ⟨⟨.none, ?_⟩, ⟨_, hit, rfl, rfl⟩, Nat.succ_ne_self _, Nat.ne_of_lt al, Nat.ne_of_lt (Nat.lt_succ_of_lt al)⟩, fun b hb => ?_, q⟩
      · rw [show k + ((0 : Nat) : Int) = k by omega]
        exact he
      · have hle : s2.heap.objs.size ≤ b := by
          rcases two hb with z | z
          · rw [z]
            exact Nat.le_succ _
          · rw [z]
            exact Nat.le_refl _
        exact I2.fpOk hle (I2.hok.fresh hle)
theorem walk_from {K : PySem.W.Frag} {a : Addr} {k : Int} {xs : List V} : Walk (ItS K a k) xs.length (fun H => SqL K H a xs) (YPair (fun i => some (.int (k + (i : Nat)))) (fun i => xs[i]?)) where
  goes i H hi q := ⟨xs, xs[i], q, List.getElem?_eq_getElem hi⟩
  stops H q := ⟨xs, q, rfl⟩
  yields i H v H' hi q y := by
    obtain ⟨T, x, g1, g2, g3, g4⟩ := y
    exact ⟨T, .int (k + (i : Nat)), x, g1, g2, g3, rfl, g4 xs q⟩
end EnS

set_option Elab.async false
set_option linter.all false
set_option maxRecDepth 100000
set_option maxHeartbeats 4000000
/-! enumerate(tuple) as a rule of the hand layer. -/
namespace EnS
open PySem PySem.Spec PyProof.Rows L2
/-- the tuple at a, its items counted from k on -/
def ItV (K : PySem.W.Frag) (a : Addr) (k : Int) : It where
  go i H := ∃ (xs : List V) (x : V), SqT K H a xs ∧ xs[i]? = some x
  yld i H v H' := ∃ T x, v = .ref T ∧ H T = none ∧ H' = upd H T (.tup [.int (k + (i : Nat)), x]) ∧ ∀ xs, SqT K H a xs → xs[i]? = some x
  stop i H := ∃ xs : List V, SqT K H a xs ∧ xs.length = i
theorem turnsT {P : Program} {w : World} {K : PySem.W.Frag} {elts : List Expr} {kk : Nat} {tpos : Pos} (a e it : Addr) (k : Int) :
    Turn P w K (.Tuple elts kk tpos) (ItV K a k) [e, it] e (fun i h => (∃ old, IsEnum h e it (k + (i : Nat)) old) ∧ h.IsTupleIter it a i ∧ e ≠ it ∧ a ≠ it ∧ a ≠ e) where
  mem := List.mem_cons_self
  obj := fun i h st b hb => by
    obtain ⟨⟨old, he⟩, ⟨o, ho, _, hd⟩, _⟩ := st
    rcases two hb with rfl | rfl
    · exact ⟨_, he, fun v q => nomatch q⟩
    · refine ⟨o, ho, fun v q => ?_⟩
      rw [hd] at q
      cases q
  keep := fun i h h' st c => by
    obtain ⟨⟨old, he⟩, hi, r⟩ := st
    exact ⟨⟨old, c e List.mem_cons_self _ he⟩, hi.at fun o q => c it (List.mem_cons_of_mem _ List.mem_cons_self) o q, r⟩
  item := by
    intro X hP hw hK hc i pins s σ H E I hf st hg
    subst hP hw hK
    obtain ⟨⟨old, he⟩, hit, hne, hai, hae⟩ := st
    obtain ⟨xs, x, hq, hx⟩ := hg
    obtain ⟨its, rv, p, _⟩ := I.tuple hq
    obtain ⟨u, hu, ru⟩ := rv.get hx
    have hu' : its.toArray[i]? = some u := by simpa using hu
    have hin : i < its.toArray.size := (Array.getElem?_eq_some_iff.mp hu').1
    have below : ∀ b, b ∈ [e, it] → b < s.heap.objs.size := fun b hb => by
      rcases two hb with rfl | rfl
      · exact Heap.lt_size he
      · obtain ⟨_, q, _⟩ := hit
        exact Heap.lt_size q
    have D := Draws.tuple (prog := X.prog) (w := X.w) (A := X.A.in1) (I.ok.hd hc) it a hai its.toArray
    refine wpAny_pyNext_enum_itemC D he ⟨hit, p⟩ hin hne (fun m => ?_) fun y h' tk hy out st' hT hsz hk => ?_
    · rcases List.mem_cons.mp m with z | m
      · exact hne z
      · exact hae (List.mem_singleton.mp m).symm
    obtain rfl : u = y := Option.some.inj (hu'.symm.trans hy)
    refine ⟨_, rfl, wpAny_letOwnedTupleGo_enum (s := { s with heap := h', toks := tk + 1 }) out fun h2 he2 sb => ?_⟩
    have hT2 : h2.get? s.heap.objs.size = some { cls := .type "tuple", data := .seq #[.int (k + (i : Nat)) tk, u] } := (sb.2 _ (Nat.ne_of_gt (below e List.mem_cons_self))).trans hT
    have new : ObjOk X.prog X.w (upd H s.heap.objs.size (.tup [.int (k + (i : Nat)), x])) h2 s.heap.objs.size (.tup [.int (k + (i : Nat)), x]) :=
      ⟨by show 2 ≤ sizeLine; decide, [.int (k + (i : Nat)) tk, u], .cons ⟨_, rfl⟩ (.cons ru .nil), ⟨_, hT2, rfl, _, rfl⟩⟩
    have I2 : Inv X pins σ (upd H s.heap.objs.size (.tup [.int (k + (i : Nat)), x])) { s with heap := h2, toks := tk + 1 } := by
      refine I.turnedNew (ch := [e, it]) (fun b ob hb q => ?_) hf (Nat.le_refl _) new
      have n1 : b ≠ e := fun z => hb (by rw [z]; exact List.mem_cons_self)
      have n2 : b ≠ it := fun z => hb (by rw [z]; exact List.mem_cons_of_mem _ List.mem_cons_self)
      exact (sb.2 b n1).trans (hk b ob n1 n2 q)
    refine ⟨.ref s.heap.objs.size, _, I2, rfl, ⟨_, x, rfl, I.hok.fresh (Nat.le_refl _), rfl, fun ys hy => ?_⟩, ⟨⟨u, ?_⟩, st'.1.at fun o q => (sb.2 it hne.symm).trans q, hne, hai, hae⟩, fun b hb => ?_⟩
    · rw [I.tuple_inj hy hq]
      exact hx
    · rw [show k + ((i + 1 : Nat) : Int) = k + (i : Nat) + 1 by omega]
      exact he2
    · rw [upd_ne (Nat.ne_of_lt (below b hb))]
      exact (hf b hb).1
  done := by
    intro X hP hw hK hc i pins s σ H E I hf st hg
    subst hP hw hK
    obtain ⟨⟨old, he⟩, hit, hne, hai, hae⟩ := st
    obtain ⟨xs, hq, hx⟩ := hg
    obtain ⟨its, rv, p, _⟩ := I.tuple hq
    obtain ⟨f0, f1, f2, f3, f4, f5⟩ := hf it (List.mem_cons_of_mem _ List.mem_cons_self)
    have hl := rv.length
    have D := Draws.tuple (prog := X.prog) (w := X.w) (A := X.A.in1) (I.ok.hd hc) it a hai its.toArray
    have hz : i = its.toArray.size := by rw [List.size_toArray]; omega
    rw [hz] at hit
    exact wpAny_pyNext_enum_endD D he ⟨hit, p⟩ fun h' eb => ⟨rfl, I.turned (t' := s.toks) (fun b o hb q => eb b o hb q) f0 f1 f3 f4 f5⟩
  self := fun A i s Q E st h => by
    obtain ⟨⟨_, he⟩, _⟩ := st
    exact wpAny_pyIter_enum he h
/-- enumerate of one thing: its two new cells -/
theorem meets_one {v : Value} {o : Obj} {G : Heap → Prop} (B : Begins v o G) :
    Meets (Builtin.«enumerate.__new__» ⟨[.type "enumerate", v], []⟩) (fun _ R s => G s.heap ∧ R (.ok (.ret (.ref (s.heap.push o).objs.size))) { s with heap := (s.heap.push o).push { cls := .type "enumerate", data := .fields #[.none, .bool false, .ref s.heap.objs.size, rawInt 0, .none, .none] } }) := by
  refine .of_wp fun prog w A R s h => ?_
  obtain ⟨hp, g, d, tk, os⟩ := s
  obtain ⟨h1, h⟩ := h
  have own := sub_enumerate
  have q1 : ∀ {A' : Around} {E : Value → Shared → Prop} {Q : Value → Shared → Prop}, Q (.ref hp.objs.size) ⟨hp.push o, g, d, tk, os⟩ → wpAny (model prog w) A' (pyIter v) Q E ⟨hp, g, d, tk, os⟩ := fun q => B.iter prog w _ _ ⟨hp, g, d, tk, os⟩ _ h1 q
  wp_walk using q1
  refine wpAny_stack_any fun st => wpAny_pure ?_
  split
  · rename_i c _ _ _ _ _
    cases (c == Value.type "enumerate") <;> wp_walk using q1 <;> exact ⟨_, rfl, h⟩
  · wp_walk using q1
    exact ⟨_, rfl, h⟩
theorem one_call {prog : Program} {w : World} {A : Around} {E : Value → Shared → Prop} {s : Shared} {v : Value} {o : Obj} {G : Heap → Prop} {Q : Value → Shared → Prop} (B : Begins v o G) (h1 : G s.heap)
    (h : ∀ h', IsEnum h' (s.heap.objs.size + 1) s.heap.objs.size 0 .none → h'.get? s.heap.objs.size = some o → (∀ b u, s.heap.get? b = some u → h'.get? b = some u) → Q (.ref (s.heap.objs.size + 1)) { s with heap := h' }) :
    wpAny (model prog w) A (call (.type "enumerate") [v]) Q E s := by
  refine callType_new F.called_enumerate (by decide) (F.typeCall_enumerate_1 _) (F.newCall_enumerate_1 _) (fun obj => F.args_object_init_2 obj _) F.entry_enumerate_new (meets_one B) ⟨h1, ?_⟩
  have z : (s.heap.push o).objs.size = s.heap.objs.size + 1 := Heap.size_push ..
  show _ ∧ _
  rw [z]
  have at1 := Heap.get?_push_size (s.heap.push o) (o := { cls := .type "enumerate", data := .fields #[.none, .bool false, .ref s.heap.objs.size, rawInt 0, .none, .none] }) rfl
  rw [z] at at1
  exact ⟨⟨_, at1, rfl⟩, h _ at1 (Heap.get?_push_of_some _ (Heap.get?_push_size _ B.free)) fun b u q => Heap.get?_push_of_some _ (Heap.get?_push_of_some _ q)⟩
def iEnT (K : PySem.W.Frag) (ta : TA) : TI := fun σ H R => ta σ H fun vs H1 => ∃ a xs, vs = [.ref a] ∧ SqT K H1 a xs ∧ R (ItV K a 0) H1
/-- enumerate of a tuple -/
theorem pi_enT {X : Cx} {K : PySem.W.Frag} {e : Expr} {ta : TA} {p pos tpos : Pos} {elts : List Expr} {kk : Nat} (h : X.K = K) (hg : Gl X "enumerate") (hm : X.mg "enumerate" = none) (ha : PA X [e] ta) (hs : starEach [e] X.env = [(false, eval e X.env)] := by rfl) :
    PI X (.Tuple elts kk tpos) (.Call (.Name "enumerate" p) [e] [] pos) (iEnT K ta) := by
  subst h
  refine ⟨fun pins s σ H R I h => Call_ (ld_blt I hg hm boot_enumerate (PyProof.Rows.callWith_type1 (thn (ha.run pos pins s σ H _ I h) fun us s1 ⟨vs, H1, I1, r1, q1⟩ => ?_) hs rfl))⟩
  obtain ⟨a, xs, rfl, hq, q⟩ := q1
  cases r1 with
  | cons ra rr =>
    cases rr
    cases ra
    obtain ⟨its, rv, p, _⟩ := I1.tuple hq
    refine one_call (begins_tuple a its.toArray) p fun h' he hit hk => wpAny_pyIter_enum he ?_
    have I3 : Inv X pins σ H1 { s1 with heap := h' } := I1.kept (t' := s1.toks) hk
    have al := p.lt
    refine ⟨s1.heap.objs.size + 1, [s1.heap.objs.size + 1, s1.heap.objs.size], _, _, H1, rfl, I3, turnsT a (s1.heap.objs.size + 1) s1.heap.objs.size 0, ⟨⟨.none, he⟩, ⟨_, hit, rfl, rfl⟩, Nat.succ_ne_self _, Nat.ne_of_lt al, Nat.ne_of_lt (Nat.lt_succ_of_lt al)⟩, fun b hb => ?_, q⟩
    have hle : s1.heap.objs.size ≤ b := by
      rcases two hb with z | z
      · rw [z]
        exact Nat.le_succ _
      · rw [z]
        exact Nat.le_refl _
    exact I1.fpOk hle (I1.hok.fresh hle)
theorem walk_fromT {K : PySem.W.Frag} {a : Addr} {k : Int} {xs : List V} : Walk (ItV K a k) xs.length (fun H => SqT K H a xs) (YPair (fun i => some (.int (k + (i : Nat)))) (fun i => xs[i]?)) where
  goes i H hi q := ⟨xs, xs[i], q, List.getElem?_eq_getElem hi⟩
  stops H q := ⟨xs, q, rfl⟩
  yields i H v H' hi q y := by
    obtain ⟨T, x, g1, g2, g3, g4⟩ := y
    exact ⟨T, .int (k + (i : Nat)), x, g1, g2, g3, rfl, g4 xs q⟩
end EnS

set_option Elab.async false
set_option linter.all false
set_option maxRecDepth 100000
set_option maxHeartbeats 4000000
/-! The words of parts, programs as texts: plain Lean. -/
namespace Lz
open PySem
def numS (i : Int) : Str := Str.ofString (toString i)
mutual
/-- the words of a part -/
def P.ws : P → List Str
  | .num i => [numS i]
  | .nam x => [("." : Str) ++ x]
  | .fn x => [(":" : Str) ++ x]
  | .op k as => k :: P.wss [] as
  | .lt nm as b => "let" :: numS (nm.length : Nat) :: (P.wss nm as ++ P.ws b)
/-- the words of some parts, names of rows ahead of the first ones -/
def P.wss : List Str → List P → List Str
  | _, [] => []
  | [], a :: as => P.ws a ++ P.wss [] as
  | x :: nm, a :: as => (("." : Str) ++ x) :: (P.ws a ++ P.wss nm as)
end
def preW (nm : List Str) (i : Nat) : List Str := match nm[i]? with
  | some x => [("." : Str) ++ x]
  | none => []
theorem wss_snoc : ∀ (nm : List Str) (as : List P) (a : P), P.wss nm (as ++ [a]) = P.wss nm as ++ (preW nm as.length ++ a.ws)
  | [], [], a => by
    show a.ws ++ P.wss [] [] = [] ++ ([] ++ a.ws)
    show a.ws ++ [] = [] ++ ([] ++ a.ws)
    rw [List.append_nil]; rfl
  | x :: nm, [], a => by
    show (("." : Str) ++ x) :: (a.ws ++ P.wss nm []) = [] ++ ([("." : Str) ++ x] ++ a.ws)
    have e : P.wss nm [] = [] := by cases nm <;> rfl
    rw [e, List.append_nil]; rfl
  | [], b :: as, a => by
    show b.ws ++ P.wss [] (as ++ [a]) = (b.ws ++ P.wss [] as) ++ ([] ++ a.ws)
    rw [wss_snoc [] as a, List.append_assoc]
    rfl
  | x :: nm, b :: as, a => by
    show (("." : Str) ++ x) :: (b.ws ++ P.wss nm (as ++ [a])) = (("." : Str) ++ x) :: (b.ws ++ P.wss nm as) ++ (preW (x :: nm) (as.length + 1) ++ a.ws)
    rw [wss_snoc nm as a]
    have e : preW (x :: nm) (as.length + 1) = preW nm as.length := by
      unfold preW
      rw [List.getElem?_cons_succ]
    rw [e, List.cons_append, List.append_assoc]
theorem preW_of {nm : List Str} {i : Nat} {x : Str} (h : nm[i]? = some x) : preW nm i = [("." : Str) ++ x] := by
  unfold preW
  rw [h]
theorem preW_no {nm : List Str} {i : Nat} (h : nm.length ≤ i) : preW nm i = [] := by
  unfold preW
  rw [List.getElem?_eq_none h]
mutual
theorem ws_len : ∀ t : P, (P.ws t).length + 1 ≤ 3 * t.many
  | .num _ => by show 1 + 1 ≤ 3 * 1; decide
  | .nam _ => by show 1 + 1 ≤ 3 * 1; decide
  | .fn _ => by show 1 + 1 ≤ 3 * 1; decide
  | .op k as => by
    have h := wss_len [] as
    show (P.wss [] as).length + 1 + 1 ≤ 3 * (1 + P.manys as)
    omega
  | .lt nm as b => by
    have h := wss_len nm as
    have h2 := ws_len b
    show (P.wss nm as ++ P.ws b).length + 1 + 1 + 1 ≤ 3 * (1 + (P.manys as + b.many))
    rw [List.length_append]
    omega
theorem wss_len : ∀ (nm : List Str) (as : List P), (P.wss nm as).length ≤ 3 * P.manys as
  | nm, [] => by
    have e : P.wss nm [] = [] := by cases nm <;> rfl
    rw [e]
    exact Nat.zero_le _
  | [], a :: as => by
    have h := wss_len [] as
    have h2 := ws_len a
    show (P.ws a ++ P.wss [] as).length ≤ 3 * (a.many + P.manys as)
    rw [List.length_append]
    omega
  | x :: nm, a :: as => by
    have h := wss_len nm as
    have h2 := ws_len a
    show (P.ws a ++ P.wss nm as).length + 1 ≤ 3 * (a.many + P.manys as)
    rw [List.length_append]
    omega
end
theorem log60 {i : Int} (h : i.natAbs < 10 ^ 60) : i.natAbs.log2 < 1920 := by
  by_cases h0 : i.natAbs = 0
  · rw [h0]
    decide
  · have h1 : (10 : Nat) ^ 60 ≤ 2 ^ 200 := by decide +kernel
    have h2 : i.natAbs.log2 < 200 := (Nat.log2_lt h0).mpr (Nat.lt_of_lt_of_le h h1)
    omega
theorem numS_len {i : Int} (h : i.natAbs < 10 ^ 60) : (numS i).length ≤ 1921 := PyProof.Rows.int_text_len_1921 (log60 h)
theorem small60 {n : Nat} (h : n ≤ 1000) : ((n : Nat) : Int).natAbs < 10 ^ 60 := by
  have h1 : (1000 : Nat) < 10 ^ 60 := by decide +kernel
  have e : ((n : Nat) : Int).natAbs = n := Int.natAbs_natCast n
  rw [e]
  exact Nat.lt_of_le_of_lt h h1
theorem one_name {x : Str} (h : nmOk x) {c : Str} (hc : c.length = 1) : (c ++ x).length ≤ 1921 := by
  rw [Str.length_append, hc]
  have := h.2.1
  omega
theorem kind_len {k : Str} {n : Nat} (h : (k, n) ∈ kinds) : k.length ≤ 1921 := by
  have h0 : kinds.all (fun p => decide (p.1.length ≤ 1921)) = true := by decide +kernel
  exact of_decide_eq_true (List.all_eq_true.mp h0 _ h)
def shortW (l : List Str) : Prop := ∀ w, w ∈ l → w.length ≤ 1921
theorem shortW.app {l m : List Str} (h : shortW l) (k : shortW m) : shortW (l ++ m) := fun w q => (List.mem_append.mp q).elim (h w) (k w)
theorem shortW.cons {x : Str} {m : List Str} (h : x.length ≤ 1921) (k : shortW m) : shortW (x :: m) := fun w q => (List.mem_cons.mp q).elim (fun e => by rw [e]; exact h) (k w)
theorem shortW.nil : shortW [] := fun _ q => nomatch q
mutual
theorem ws_short {F : List Str} : ∀ (t : P) (sc : List Str), t.ok → t.fit F sc → shortW t.ws
  | .num i, _, _, h => .cons (numS_len h) .nil
  | .nam x, _, h, _ => .cons (one_name h (by decide +kernel)) .nil
  | .fn x, _, h, _ => .cons (one_name h (by decide +kernel)) .nil
  | .op k as, sc, h, h2 => .cons (kind_len h.1) (wss_short [] as sc (fun _ q => nomatch q) h.2 h2)
  | .lt nm as b, sc, h, h2 => .cons (by decide +kernel) (.cons (numS_len (small60 (by have := h2.2.1; omega))) ((wss_short nm as (sc ++ nm) h.2.1 h.2.2.1 h2.2.2.1).app (ws_short b (sc ++ nm) h.2.2.2 h2.2.2.2)))
theorem wss_short {F : List Str} : ∀ (nm : List Str) (as : List P) (sc : List Str), (∀ x, x ∈ nm → nmOk x) → P.oks as → P.fits F as sc → shortW (P.wss nm as)
  | nm, [], _, _, _, _ => by
    have e : P.wss nm [] = [] := by cases nm <;> rfl
    rw [e]
    exact .nil
  | [], a :: as, sc, hn, h, h2 => (ws_short a sc h.1 h2.1).app (wss_short [] as sc hn h.2 h2.2)
  | x :: nm, a :: as, sc, hn, h, h2 => .cons (one_name (hn x List.mem_cons_self) (by decide +kernel)) ((ws_short a sc h.1 h2.1).app (wss_short nm as sc (fun y m => hn y (List.mem_cons_of_mem _ m)) h.2 h2.2))
end
theorem sum_le {c : Nat} : ∀ {l : List Str}, (∀ w, w ∈ l → w.length ≤ c) → (l.map (·.length)).sum ≤ c * l.length
  | [], _ => Nat.zero_le _
  | x :: l, h => by
    have h1 := h x List.mem_cons_self
    have h2 := sum_le (l := l) fun w m => h w (List.mem_cons_of_mem _ m)
    show x.length + (l.map (·.length)).sum ≤ c * (l.length + 1)
    rw [Nat.mul_add]
    omega
theorem join_len (s : Str) : ∀ l : List Str, (Str.join s l).length ≤ (l.map (·.length)).sum + l.length * s.length
  | [] => Nat.zero_le _
  | [x] => by
    show x.length ≤ x.length + 0 + 1 * s.length
    omega
  | x :: y :: r => by
    have h := join_len s (y :: r)
    show (x ++ s ++ Str.join s (y :: r)).length ≤ x.length + ((y :: r).map (·.length)).sum + ((y :: r).length + 1) * s.length
    rw [Str.length_append, Str.length_append, Nat.add_mul]
    omega
/-- the text of a part -/
def P.txt (t : P) : Str := Str.join " " t.ws
/-- the words of a function's row -/
def fnW (g : Fn) : List Str := g.1 :: (g.2.1.map (fun x => ("." : Str) ++ x) ++ ("=" : Str) :: g.2.2.ws)
def rowsW (fs : List Fn) (d : P) : List (List Str) := fs.map fnW ++ [("?" : Str) :: d.ws]
def progT (fs : List Fn) (d : P) : Str := Str.join "\n" ((rowsW fs d).map (Str.join " "))
theorem ws_ne : ∀ t : P, ∃ x r, t.ws = x :: r
  | .num _ => ⟨_, _, rfl⟩
  | .nam _ => ⟨_, _, rfl⟩
  | .fn _ => ⟨_, _, rfl⟩
  | .op _ _ => ⟨_, _, rfl⟩
  | .lt _ _ _ => ⟨_, _, rfl⟩
theorem ask_text (d : P) : Str.join " " (("?" : Str) :: d.ws) = ("? " : Str) ++ d.txt := by
  obtain ⟨x, r, e⟩ := ws_ne d
  unfold P.txt
  rw [e]
  show ("?" : Str) ++ " " ++ Str.join " " (x :: r) = _
  rfl
end Lz

set_option Elab.async false
set_option linter.all false
set_option maxRecDepth 100000
set_option maxHeartbeats 4000000
/-! Rows read: heaps that keep all but one object; words as they are read. -/
namespace Lz
open PySem PySem.Spec PyProof.Rows L2 TL

/-- all is kept but what stands at r -/
def Kr (r : Addr) (H H' : Hp) : Prop := ∀ b o, H b = some o → b ≠ r → H' b = some o
section
variable {r p a : Addr} {H H1 H' : Hp} {K : PySem.W.Frag} {xs : List V} {o : HO}
theorem Kr.refl (r : Addr) (H : Hp) : Kr r H H := fun _ _ h _ => h
theorem Kr.trans (h : Kr r H H1) (k : Kr r H1 H') : Kr r H H' := fun b o e n => k b o (h b o e n) n
theorem Kr.of (k : Kp [] H H') : Kr r H H' := fun b o e _ => k b o e (fun m => nomatch m)
theorem Kr.new (h : H p = none) : Kr r H (upd H p o) := Kr.of (Kp.new h)
theorem Kr.at (r : Addr) (H : Hp) (o : HO) : Kr r H (upd H r o) := fun b x e n => by
  rw [upd_ne n]
  exact e
theorem Kr.mut (k : Kr r H H') (h : H p = none) : Kr r H (upd H' p o) := fun b x e n => by
  rw [upd_ne (ne_of_none e h)]
  exact k b x e n
theorem Kr.free (k : Kr r H H1) (h : H1 p = none) (n : p ≠ r) : H p = none := by
  cases e : H p with
  | none => rfl
  | some o =>
    have := k p o e n
    rw [h] at this
    cases this
/-- r itself was not there -/
theorem Kr.kp {H0 : Hp} {S : List Addr} (k0 : Kp S H0 H) (h : H0 r = none) (k : Kr r H H') : Kp S H0 H' := fun b o e n => k b o (k0 b o e n) (ne_of_none e h)
theorem Kr.sqT {C dx : Addr} {fs : List (Str × V)} (k : Kr r H H') (hr : H r = some (.ins C dx fs)) (h : SqT K H a xs) : SqT K H' a xs := by
  rcases h with (h | ⟨o, h⟩) | h
  · exact .inl (.inl (k _ _ h (fun e => by rw [e, hr] at h; cases h)))
  · exact .inl (.inr ⟨o, k _ _ h (fun e => by rw [e, hr] at h; cases h)⟩)
  · exact .inr h
end
end Lz
namespace L2
open PySem PySem.Spec PyProof.Rows Lz
section
variable {r : Addr} {H H' : Hp} {K : PySem.W.Frag} {C dx : Addr} {fs : List (Str × V)}
mutual
theorem Dp.keepR (k : Kr r H H') (hr : H r = some (.ins C dx fs)) : ∀ (d : PyData) (v : V), fz d = true → Dp K H v d → Dp K H' v d
  | .none, _, _, h => by cases h; exact .non
  | .bool b, _, _, h => by cases h; exact .bl b
  | .int i, _, _, h => by cases h; exact .int i
  | .str x, _, _, h => by cases h; exact .str x
  | .list ds, _, f, _ => by
    have : false = true := f
    cases this
  | .tuple ds, _, f, h => by
    cases h with
    | tup hs ha => exact .tup (k.sqT hr hs) (Dp.keepAllR k hr ds _ f ha)
  | .dict _, _, _, h => by cases h
theorem Dp.keepAllR (k : Kr r H H') (hr : H r = some (.ins C dx fs)) : ∀ (ds : List PyData) (vs : List V), fzAll ds = true → DpAll K H vs ds → DpAll K H' vs ds
  | [], _, _, h => by cases h; exact .nil
  | d :: ds, _, f, h => by
    have f' : fz d = true ∧ fzAll ds = true := by
      have : (fz d && fzAll ds) = true := f
      rwa [Bool.and_eq_true] at this
    cases h with
    | cons h1 h2 => exact .cons (Dp.keepR k hr d _ f'.1 h1) (Dp.keepAllR k hr ds _ f'.2 h2)
end
end
end L2
namespace Lz
open PySem PySem.Spec PyProof.Rows L2 TL

/-! ### a row -/
def rf (n : Int) (w : Addr) (a p : Int) : List (Str × V) := [("_number", .int n), ("_words", .ref w), ("_at", .int a), ("_parts", .int p)]
theorem kNW : ¬ (("_number" : Str) = "_words") := by decide +kernel
theorem kNA : ¬ (("_number" : Str) = "_at") := by decide +kernel
theorem kNP : ¬ (("_number" : Str) = "_parts") := by decide +kernel
theorem kWA : ¬ (("_words" : Str) = "_at") := by decide +kernel
theorem kWP : ¬ (("_words" : Str) = "_parts") := by decide +kernel
theorem kAP : ¬ (("_at" : Str) = "_parts") := by decide +kernel
theorem look_cons (k m : Str) (v : V) (l : List (Str × V)) : ((m, v) :: l).lookup k = if k = m then some v else l.lookup k := by
  by_cases h : k = m
  · subst h
    rw [if_pos rfl]
    simp [List.lookup]
  · rw [if_neg h]
    have hb : (k == m) = false := by
      cases e : (k == m) with
      | true => exact absurd (beq_iff_eq.mp e) h
      | false => rfl
    simp [List.lookup, hb]
theorem rf_w (n : Int) (w : Addr) (a p : Int) : (rf n w a p).lookup ("_words" : Str) = some (.ref w) := by
  unfold rf
  rw [look_cons, if_neg (fun e => kNW e.symm), look_cons, if_pos rfl]
theorem rf_a (n : Int) (w : Addr) (a p : Int) : (rf n w a p).lookup ("_at" : Str) = some (.int a) := by
  unfold rf
  rw [look_cons, if_neg (fun e => kNA e.symm), look_cons, if_neg (fun e => kWA e.symm), look_cons, if_pos rfl]
theorem rf_p (n : Int) (w : Addr) (a p : Int) : (rf n w a p).lookup ("_parts" : Str) = some (.int p) := by
  unfold rf
  rw [look_cons, if_neg (fun e => kNP e.symm), look_cons, if_neg (fun e => kWP e.symm), look_cons, if_neg (fun e => kAP e.symm), look_cons, if_pos rfl]
theorem rf_no (n : Int) (w : Addr) (a p : Int) {m : Str} (h1 : ¬ m = "_number") (h2 : ¬ m = "_words") (h3 : ¬ m = "_at") (h4 : ¬ m = "_parts") : (rf n w a p).lookup m = none := by
  unfold rf
  rw [look_cons, if_neg h1, look_cons, if_neg h2, look_cons, if_neg h3, look_cons, if_neg h4]
  rfl
theorem rf_putA (n : Int) (w : Addr) (a p b : Int) : putF "_at" (.int b) (rf n w a p) = rf n w b p := by
  unfold rf
  show (if ("_number" : Str) = "_at" then _ else (("_number" : Str), V.int n) :: (if ("_words" : Str) = "_at" then _ else (("_words" : Str), V.ref w) :: (if ("_at" : Str) = "_at" then (("_at" : Str), V.int b) :: [("_parts", V.int p)] else _))) = _
  rw [if_neg kNA, if_neg kWA, if_pos rfl]
theorem rf_putP (n : Int) (w : Addr) (a p b : Int) : putF "_parts" (.int b) (rf n w a p) = rf n w a b := by
  unfold rf
  show (if ("_number" : Str) = "_parts" then _ else (("_number" : Str), V.int n) :: (if ("_words" : Str) = "_parts" then _ else (("_words" : Str), V.ref w) :: (if ("_at" : Str) = "_parts" then _ else (("_at" : Str), V.int a) :: (if ("_parts" : Str) = "_parts" then [(("_parts" : Str), V.int b)] else _)))) = _
  rw [if_neg kNP, if_neg kWP, if_neg kAP, if_pos rfl]
theorem rf_new (n : Int) (w : Addr) : putF "_parts" (.int 0) (putF "_at" (.int 0) (putF "_words" (.ref w) (putF "_number" (.int n) []))) = rf n w 0 0 := by
  have e1 : putF "_words" (.ref w) (putF "_number" (.int n) []) = [(("_number" : Str), V.int n), ("_words", .ref w)] := by
    show (if ("_number" : Str) = "_words" then _ else (("_number" : Str), V.int n) :: [(("_words" : Str), V.ref w)]) = _
    rw [if_neg kNW]
  have e2 : putF "_at" (.int 0) [(("_number" : Str), V.int n), ("_words", .ref w)] = [(("_number" : Str), V.int n), ("_words", .ref w), ("_at", .int 0)] := by
    show (if ("_number" : Str) = "_at" then _ else (("_number" : Str), V.int n) :: (if ("_words" : Str) = "_at" then _ else (("_words" : Str), V.ref w) :: [(("_at" : Str), V.int 0)])) = _
    rw [if_neg kNA, if_neg kWA]
  rw [e1, e2]
  show (if ("_number" : Str) = "_parts" then _ else (("_number" : Str), V.int n) :: (if ("_words" : Str) = "_parts" then _ else (("_words" : Str), V.ref w) :: (if ("_at" : Str) = "_parts" then _ else (("_at" : Str), V.int 0) :: [(("_parts" : Str), V.int 0)]))) = _
  rw [if_neg kNP, if_neg kWP, if_neg kAP]
  rfl
structure RowAt (C : Addr) (H : Hp) (r : Addr) (n : Int) (w : Addr) (ws : List Str) (a p : Nat) : Prop where
  ob : ∃ dx, H r = some (.ins C dx (rf n w (a : Int) (p : Int)))
  wd : H w = some (.lst (ws.map V.str))
theorem RowAt.ne {C : Addr} {H : Hp} {r : Addr} {n : Int} {w : Addr} {ws : List Str} {a p : Nat} (h : RowAt C H r n w ws a p) : w ≠ r := fun e => by
  obtain ⟨dx, ho⟩ := h.ob
  have := h.wd
  rw [e, ho] at this
  cases this
theorem RowAt.keep {C : Addr} {H H' : Hp} {r : Addr} {n : Int} {w : Addr} {ws : List Str} {a p : Nat} (h : RowAt C H r n w ws a p) (k : Kp [] H H') : RowAt C H' r n w ws a p := by
  obtain ⟨dx, ho⟩ := h.ob
  exact ⟨⟨dx, k _ _ ho (fun m => nomatch m)⟩, k.lst h.wd (fun m => nomatch m)⟩
/-- the next word -/
def nxw (ws : List Str) (a : Nat) : Str := (ws[a]?).getD ""
theorem nxw_of {ws : List Str} {a : Nat} {x : Str} {rest : List Str} (h : ws.drop a = x :: rest) : nxw ws a = x ∧ a < ws.length ∧ ws[a]? = some x ∧ ws.drop (a + 1) = rest := by
  have e : ws[a]? = some x := by
    have : (ws.drop a)[0]? = ws[a]? := by rw [List.getElem?_drop]; rfl
    rw [← this, h]
    rfl
  have hl := (List.getElem?_eq_some_iff.mp e).1
  refine ⟨?_, hl, e, ?_⟩
  · unfold nxw
    rw [e]
    rfl
  · have : ws.drop (a + 1) = (ws.drop a).drop 1 := by rw [List.drop_drop]
    rw [this, h]
    rfl
theorem drop_app {ws xs rest : List Str} {a : Nat} (h : ws.drop a = xs ++ rest) : ws.drop (a + xs.length) = rest := by
  rw [← List.drop_drop, h, List.drop_left]

/-! ### words -/
abbrev figures : Str := "0123456789"
theorem tl_figures : tl figures = [48, 49, 50, 51, 52, 53, 54, 55, 56, 57] := by decide +kernel
theorem in_figs (c : Nat) : (!(Builtin.Str.occurrences figures ⟨#[c]⟩ 0 figures.length 1).isEmpty) = decide (48 ≤ c ∧ c ≤ 57) := by
  rw [Bool.eq_iff_iff, PySem.StrLaws.found_iff, decide_eq_true_iff]
  constructor
  · rintro ⟨i, h⟩
    have h2 := (PySem.StrLaws.subAt_one figures c i).mp h
    rw [show figures.cps.toList = [48, 49, 50, 51, 52, 53, 54, 55, 56, 57] from tl_figures] at h2
    have m := List.mem_of_getElem? h2
    simp only [List.mem_cons, List.not_mem_nil, or_false] at m
    omega
  · intro h
    refine ⟨c - 48, (PySem.StrLaws.subAt_one figures c (c - 48)).mpr ?_⟩
    rw [show figures.cps.toList = [48, 49, 50, 51, 52, 53, 54, 55, 56, 57] from tl_figures]
    have : ∀ j, j < 10 → [48, 49, 50, 51, 52, 53, 54, 55, 56, 57][j]? = some (48 + j) := by decide
    rw [this (c - 48) (by omega), show 48 + (c - 48) = c by omega]
/-- whether it begins with this one sign -/
theorem st_one {x y : Str} {c s : Nat} {l : List Nat} (hx : tl x = c :: l) (hy : tl y = [s]) : Txt.startswith x y = decide (c = s) := by
  unfold Txt.startswith
  rw [PySem.StrLaws.subAt_eq, show x.cps.toList = c :: l from hx, show y.cps.toList = [s] from hy]
  have ly : y.length = 1 := by rw [len_tl, hy]; rfl
  have lx : x.length = l.length + 1 := by rw [len_tl, hx]; rfl
  rw [ly, lx, decide_eq_true (show 0 + 1 ≤ l.length + 1 by omega), Bool.true_and]
  show ([c] == [s]) = _
  rw [Bool.eq_iff_iff, beq_iff_eq, decide_eq_true_iff]
  simp
theorem cut1 (x : Str) {c : Nat} {l : List Nat} (h : tl x = c :: l) : tl (cutS x (some 1) none) = l := by
  have lx : x.length = l.length + 1 := by rw [len_tl, h]; rfl
  show ((x.cps.toList.drop (HT.sIx x.length 0 (some 1))).take (HT.sIx x.length x.length none - HT.sIx x.length 0 (some 1))) = l
  have e1 : HT.sIx x.length 0 (some 1) = 1 := by
    rw [lx]
    unfold HT.sIx
    simp
    try omega
  have e2 : HT.sIx x.length x.length none = x.length := rfl
  rw [e1, e2, show x.cps.toList = c :: l from h, List.drop_one, List.tail_cons, lx]
  exact List.take_of_length_le (by omega)
theorem cut_app (c y : Str) {s : Nat} (h : tl c = [s]) : cutS (c ++ y) (some 1) none = y := by
  refine ext_tl ?_
  exact cut1 (c ++ y) (c := s) (by rw [tl_append, h]; rfl)
theorem tl_dot : tl ("." : Str) = [46] := by decide +kernel
theorem tl_col : tl (":" : Str) = [58] := by decide +kernel
theorem tl_min : tl ("-" : Str) = [45] := by decide +kernel
theorem tl_zero : tl ("0" : Str) = [48] := by decide +kernel
/-- a number's word -/
theorem numS_pos (n : Nat) : tl (numS (n : Int)) = numL n := tl_num n
theorem numS_neg (m : Nat) : tl (numS (Int.negSucc m)) = 45 :: numL (m + 1) := by
  unfold numS
  rw [tl_ofString]
  show (("-" ++ Nat.repr (m + 1) : String)).toList.map Char.toNat = _
  rw [String.toList_append, List.map_append]
  show [45] ++ _ = [45] ++ _
  congr 1
  have := tl_num (m + 1)
  rw [tl_ofString] at this
  exact this
theorem numL_head : ∀ n : Nat, 1 ≤ n → ∃ c l, numL n = c :: l ∧ 49 ≤ c ∧ c ≤ 57 := fun n => by
  induction n using Nat.strongRecOn with
  | _ n ih =>
    intro h1
    by_cases h : n < 10
    · exact ⟨48 + n, [], numL_lt h, by omega, by omega⟩
    · obtain ⟨c, l, e, h2, h3⟩ := ih (n / 10) (by omega) (by omega)
      refine ⟨c, l ++ [48 + n % 10], ?_, h2, h3⟩
      rw [numL_step (by omega), e]
      rfl
theorem numS_back {i : Int} (h : i.natAbs < 10 ^ 60) : intText? (numS i) = some i ∧ (numS i).length ≤ 640 := by
  cases i with
  | ofNat n =>
    have hl := numL_len (n := n) (k := 60) (by omega) h
    refine ⟨int_num (by omega), ?_⟩
    rw [len_tl, show tl (numS (Int.ofNat n)) = numL n from numS_pos n]
    omega
  | negSucc m =>
    have hl := numL_len (n := m + 1) (k := 60) (by omega) h
    have hn : (numS (Int.negSucc m)).length ≤ 61 := by
      rw [len_tl, numS_neg, List.length_cons]
      omega
    refine ⟨?_, by omega⟩
    rw [intText_neg (x := numS (Int.negSucc m)) (numS_neg m) (numL_digits _) (numL_ne _) (by omega), numL_val]
    rfl
theorem numS_inj {i j : Nat} (h : numS (i : Int) = numS (j : Int)) : i = j := by
  have := congrArg tl h
  rw [numS_pos, numS_pos] at this
  exact numL_inj this
end Lz

set_option Elab.async false
set_option linter.all false
set_option maxRecDepth 100000
set_option maxHeartbeats 4000000
namespace StZ
open PySem PySem.Spec PyProof.Rows L2
theorem pi_zipLK {X : Cx} {K : PySem.W.Frag} {e e2 : Expr} {ta : TA} {p pos tpos : Pos} {elts : List Expr} {kk : Nat} (h : X.K = K) (hg : Gl X "zip") (hm : X.mg "zip" = none) (ha : PA X [e, e2] ta)
    (hs : starEach [e, e2] X.env = (false, eval e X.env) :: starEach [e2] X.env := by rfl) (hpl : (backTo pos (starEach [e2] X.env)).any (·.1) = false := by rfl) :
    PI X (.Tuple elts kk tpos) (.Call (.Name "zip" p) [e, e2] [] pos) (iZip K ta) := by
  subst h
  exact pi_zip hg hm ha hs hpl
end StZ
namespace Lz
open PySem PySem.Spec PyProof.Rows L2
/-- all is kept but what stands at the addresses of S -/
def Ks (S : List Addr) (H H' : Hp) : Prop := ∀ b o, H b = some o → b ∉ S → H' b = some o
section
variable {S : List Addr} {p r : Addr} {H H0 H1 H' : Hp} {K : PySem.W.Frag} {xs : List V} {o : HO}
theorem Ks.refl (S : List Addr) (H : Hp) : Ks S H H := fun _ _ h _ => h
theorem Ks.trans (h : Ks S H H1) (k : Ks S H1 H') : Ks S H H' := fun b o e n => k b o (h b o e n) n
theorem Ks.of (k : Kp [] H H') : Ks S H H' := fun b o e _ => k b o e (fun m => nomatch m)
theorem Ks.at (m : p ∈ S) : Ks S H (upd H p o) := fun b x e n => by
  rw [upd_ne (fun q => n (by rw [q]; exact m))]
  exact e
theorem Ks.mut (k : Ks S H H') (h : H p = none) : Ks S H (upd H' p o) := fun b x e n => by
  rw [upd_ne (ne_of_none e h)]
  exact k b x e n
/-- what is at S was not there -/
theorem Ks.kr (k0 : Kr r H0 H) (n : ∀ x, x ∈ S → H0 x = none) (k : Ks S H H') (hr : ∀ o, H r = some o → H' r = some o) : Kr r H0 H' := fun b o e nb => k b o (k0 b o e nb) (fun m => by rw [n b m] at e; cases e)
/-- no tuple stands at the addresses of S -/
def NoT (S : List Addr) (H : Hp) : Prop := ∀ x, x ∈ S → ∀ o, H x = some o → (∀ vs, o ≠ .tup vs) ∧ ∀ q u, o ≠ .frz q u
theorem Ks.sqT (k : Ks S H H') (n : NoT S H) {a : Addr} (h : SqT K H a xs) : SqT K H' a xs := by
  rcases h with (h | ⟨o, h⟩) | h
  · exact .inl (.inl (k _ _ h (fun m => (n _ m _ h).1 _ rfl)))
  · exact .inl (.inr ⟨o, k _ _ h (fun m => (n _ m _ h).2 _ _ rfl)⟩)
  · exact .inr h
end
end Lz
namespace L2
open PySem PySem.Spec PyProof.Rows Lz
section
variable {S : List Addr} {H H' : Hp} {K : PySem.W.Frag}
mutual
theorem Dp.keepS (k : Ks S H H') (n : NoT S H) : ∀ (d : PyData) (v : V), fz d = true → Dp K H v d → Dp K H' v d
  | .none, _, _, h => by cases h; exact .non
  | .bool b, _, _, h => by cases h; exact .bl b
  | .int i, _, _, h => by cases h; exact .int i
  | .str x, _, _, h => by cases h; exact .str x
  | .list ds, _, f, _ => by
    have : false = true := f
    cases this
  | .tuple ds, _, f, h => by
    cases h with
    | tup hs ha => exact .tup (k.sqT n hs) (Dp.keepAllS k n ds _ f ha)
  | .dict _, _, _, h => by cases h
theorem Dp.keepAllS (k : Ks S H H') (n : NoT S H) : ∀ (ds : List PyData) (vs : List V), fzAll ds = true → DpAll K H vs ds → DpAll K H' vs ds
  | [], _, _, h => by cases h; exact .nil
  | d :: ds, _, f, h => by
    have f' : fz d = true ∧ fzAll ds = true := by
      have : (fz d && fzAll ds) = true := f
      rwa [Bool.and_eq_true] at this
    cases h with
    | cons h1 h2 => exact .cons (Dp.keepS k n d _ f'.1 h1) (Dp.keepAllS k n ds _ f'.2 h2)
end
end
end L2

set_option Elab.async false
set_option linter.all false
set_option maxRecDepth 100000
set_option maxHeartbeats 4000000
/-! name = {k: v for ..} where the name's line is one, and any walk within it. -/
namespace DcS
open PySem PySem.Spec PyProof.Rows L2
section
variable {X : Cx}
theorem sw_dict {kx vx : Expr} {gs : List Comprehension} {scope : Scope} {pos py : Pos} {y : Str} {l : Nat} {env : Env} (hk : env.scope.kind = .function) (hy : env.scope.names.lookup y = some .local) (hl : (py.line == pos.line) = true)
    (ha : (scope.names.any fun (n, k) => n == y && (k == .local || k == .cell)) = false) : swapsWith (.DictComp kx vx gs scope pos) (some (.Name y py)) l env = pure true := by
  have e1 : env.kindOf y = some .local := hy
  have e2 : env.blockKind = .function := by
    unfold Env.blockKind
    rw [hk]
    rfl
  unfold swapsWith
  simp only [e1, e2, ha, Expr.pos, hl]
  rfl
theorem ps_setDc {i : Nat} {y : Str} {py : Pos} {kx vx tg iter : Expr} {ifs : List Expr} {scope : Scope} {own : List (Str × Nat)} {pos spos : Pos} {wi : TI} {g : TG} {tt : TT} {tk tv : TE} (hc : X.calm = true) (hN : X.N.Nodup) (hy : X.N[i]? = some y) (hyl : X.env.scope.names.lookup y = some .local)
    (hsw : swapsWith (.DictComp kx vx [⟨tg, iter, ifs, 0⟩] scope pos) (some (.Name y py)) spos.line X.env = pure true) (hi : PI X tg iter wi) (ok : BlkOk X.N X.env.scope scope own)
    (hg : ∀ (s : Shared) (H : Hp) (C : Addr) (cl : List (Str × Addr)) (fp : List Addr), PG (X.blk s H scope (compEnvC scope cl C X.env) fp) tg g) (ht : ∀ (s : Shared) (H : Hp) (C : Addr) (cl : List (Str × Addr)) (fp : List Addr), PTs (X.blk s H scope (compEnvC scope cl C X.env) fp) ifs tt)
    (hk : ∀ (s : Shared) (H : Hp) (C : Addr) (cl : List (Str × Addr)) (fp : List Addr), PE (X.blk s H scope (compEnvC scope cl C X.env) fp) kx tk)
    (he : ∀ (s : Shared) (H : Hp) (C : Addr) (cl : List (Str × Addr)) (fp : List Addr), PE (X.blk s H scope (compEnvC scope cl C X.env) fp) vx tv) (hs : ∀ x, foldedSetIterable iter X.env x = pure x := by intro _; rfl) :
    PS X (.Assign [.Name y py] (.DictComp kx vx [⟨tg, iter, ifs, 0⟩] scope pos) spos) (tAsg (tDc wi g tt tk tv (own.map (·.2))) (gName i)) := by
  refine ⟨fun pins s σ H D I h => ?_⟩
  rw [exec_Assign_Name_used _ _ _ _ hsw]
  refine wpAny_bind (wpAny_standAt (wpAny_bind ?_))
  show wpAny _ X.A (do let _ ← comprehension (.DictComp kx vx [⟨tg, iter, ifs, 0⟩] scope pos) scope X.env (firstIterPos [⟨tg, iter, ifs, 0⟩] pos) newDict false (eval iter X.env) (some (assign (.Name y py) X.env))) _ _ s
  have h : tDc wi g tt tk tv (own.map (·.2)) σ H (fun x H1 => gName i x σ H1 D.nx) := h
  refine wpAny_bind (thn (dc_core (Qf := fun _ s' => SP X pins D .next s') hc hN I hi ok hg ht hk he hs h fun L C s' m H' I' q hn f => ?_) fun _ s' hq => wpAny_pure (wpAny_pure hq))
  show wpAny _ _ (assign (.Name y py) X.env (.ref L)) _ _ _
  obtain ⟨f0, f1, f2, f3, f4, f5⟩ := f
  refine wpAny_assign_Name (store_ok2 (v := V.ref L) I' hN hy (.inl hyl) rfl (fun s2 I2 ⟨a, sb, ha⟩ => ⟨m, hn.sameBut sb ?_, fun h3 sb3 => ⟨_, H', I2.turned (t' := s2.toks) (fun b o hb e => (sb3.2 b hb).trans e) f0 f1 f3 f4 f5, q⟩⟩) (.inr hyl))
  rcases ha with z | z
  · rw [z]
    exact f1
  · exact fun e => f4 y a z e.symm
end
theorem dc_it {J : It} {n : Nat} {G : Hp → Prop} {Y : Nat → Hp → V → Hp → Prop} (wk : Walk J n G Y) {g : TG} {tt : TT} {tk tv : TE} {vs : List Nat} {σ : L2.St} {H1 : Hp} {D : Addr} {Qd : Hp → Prop} (Pv : Nat → Hp → Prop) (h0 : Pv 0 (upd H1 D (.dK []))) (hG : ∀ i H, i ≤ n → Pv i H → G H)
    (hs : ∀ i x H H', i < n → Pv i H → Y i H x H' → g x (wipe σ vs) H' fun σ2 H2 => wipe σ2 vs = wipe σ vs ∧ tt σ2 H2 fun b H3 =>
      if b = true then tk σ2 H3 fun y H4 => tv σ2 H4 fun z H5 => ∃ kvs k, y = kV k ∧ H5 D = some (.dK kvs) ∧ kvs.length < sizeLine ∧ Pv (i + 1) (upd H5 D (.dK (putK kvs k z))) else Pv (i + 1) H3)
    (hd : ∀ H, Pv n H → Qd H) :
    ∃ W : Nat → Nat → Hp → Prop, (∃ m, W 0 m (upd H1 D (.dK []))) ∧ ∀ i m H, W i m H → (J.stop i H ∧ Qd H) ∨ (J.go i H ∧ ∃ Nx : Hp → Prop, (∀ H', Nx H' → ∃ m', m' < m ∧ W (i + 1) m' H') ∧ ∀ x H', J.yld i H x H' →
      g x (wipe σ vs) H' fun σ2 H2 => wipe σ2 vs = wipe σ vs ∧ tt σ2 H2 fun b H3 => if b = true then tk σ2 H3 fun y H4 => tv σ2 H4 fun z H5 => ∃ kvs k, y = kV k ∧ H5 D = some (.dK kvs) ∧ kvs.length < sizeLine ∧ Nx (upd H5 D (.dK (putK kvs k z))) else Nx H3) := by
  refine ⟨fun i m H => m = n - i ∧ i ≤ n ∧ Pv i H, ⟨n, rfl, Nat.zero_le _, h0⟩, ?_⟩
  rintro i m H ⟨rfl, hi, p⟩
  have gg := hG i H hi p
  rcases Nat.lt_or_ge i n with hlt | hge
  · refine .inr ⟨wk.goes i H hlt gg, Pv (i + 1), fun H' p' => ⟨n - (i + 1), by omega, rfl, hlt, p'⟩, fun x H' y => ?_⟩
    exact hs i x H H' hlt p (wk.yields i H x H' hlt gg y)
  · obtain rfl : i = n := by omega
    exact .inl ⟨wk.stops H gg, hd H p⟩
end DcS

set_option Elab.async false
set_option linter.all false
set_option maxRecDepth 100000
set_option maxHeartbeats 4000000
/-! What the look answers of any data: plain functions of data. -/
namespace Lz
open PySem PySem.Spec PyProof.Rows L2
mutual
theorem Dp.keep0 {K : PySem.W.Frag} {H H' : Hp} (k : Kp [] H H') : ∀ (d : PyData) (v : V), Dp K H v d → Dp K H' v d
  | .none, _, h => by cases h; exact .non
  | .bool b, _, h => by cases h; exact .bl b
  | .int i, _, h => by cases h; exact .int i
  | .str x, _, h => by cases h; exact .str x
  | .list ds, _, h => by
    cases h with
    | lst hs ha => exact .lst (k.sqL hs (fun m => nomatch m)) (Dp.keepAll0 k ds _ ha)
  | .tuple ds, _, h => by
    cases h with
    | tup hs ha => exact .tup (k.sqT hs) (Dp.keepAll0 k ds _ ha)
  | .dict _, _, h => by cases h
theorem Dp.keepAll0 {K : PySem.W.Frag} {H H' : Hp} (k : Kp [] H H') : ∀ (ds : List PyData) (vs : List V), DpAll K H vs ds → DpAll K H' vs ds
  | [], _, h => by cases h; exact .nil
  | d :: ds, _, h => by
    cases h with
    | cons h1 h2 => exact .cons (Dp.keep0 k d _ h1) (Dp.keepAll0 k ds _ h2)
end
mutual
/-- no text and nothing that holds things is longer than a thousand -/
def szd : PyData → Bool
  | .str x => decide (x.length ≤ 1000)
  | .tuple ds => decide (ds.length ≤ 1000) && szs ds
  | .list ds => decide (ds.length ≤ 1000) && szs ds
  | _ => true
def szs : List PyData → Bool
  | [] => true
  | d :: ds => szd d && szs ds
end
theorem szs_mem : ∀ {ds : List PyData} {d : PyData}, szs ds = true → d ∈ ds → szd d = true
  | x :: xs, d, h, m => by
    have h' : (szd x && szs xs) = true := h
    rw [Bool.and_eq_true] at h'
    rcases List.mem_cons.mp m with e | m
    · rw [e]; exact h'.1
    · exact szs_mem h'.2 m
def tyD : PyData → String
  | .none => "NoneType"
  | .bool _ => "bool"
  | .int _ => "int"
  | .str _ => "str"
  | .list _ => "list"
  | .tuple _ => "tuple"
  | .dict _ => "dict"
def isTup : PyData → Bool
  | .tuple _ => true
  | _ => false
def isStr : PyData → Bool
  | .str _ => true
  | _ => false
def isInt : PyData → Bool
  | .int _ => true
  | .bool _ => true
  | _ => false
def isBool : PyData → Bool
  | .bool _ => true
  | _ => false
theorem kit_tup {K : PySem.W.Frag} (d : PyData) : PySem.W.kitOne K (.type (tyD d)) (.type "tuple") = some (isTup d) := by
  cases d with
  | none => exact kit_ty (a := "NoneType") (b := "tuple") (r := false) (by decide +kernel)
  | bool b => exact kit_ty (a := "bool") (b := "tuple") (r := false) (by decide +kernel)
  | int i => exact kit_ty (a := "int") (b := "tuple") (r := false) (by decide +kernel)
  | str x => exact kit_ty (a := "str") (b := "tuple") (r := false) (by decide +kernel)
  | list xs => exact kit_ty (a := "list") (b := "tuple") (r := false) (by decide +kernel)
  | tuple xs => exact kit_ty (a := "tuple") (b := "tuple") (r := true) (by decide +kernel)
  | dict kv => exact kit_ty (a := "dict") (b := "tuple") (r := false) (by decide +kernel)
theorem kit_str {K : PySem.W.Frag} (d : PyData) : PySem.W.kitOne K (.type (tyD d)) (.type "str") = some (isStr d) := by
  cases d with
  | none => exact kit_ty (a := "NoneType") (b := "str") (r := false) (by decide +kernel)
  | bool b => exact kit_ty (a := "bool") (b := "str") (r := false) (by decide +kernel)
  | int i => exact kit_ty (a := "int") (b := "str") (r := false) (by decide +kernel)
  | str x => exact kit_ty (a := "str") (b := "str") (r := true) (by decide +kernel)
  | list xs => exact kit_ty (a := "list") (b := "str") (r := false) (by decide +kernel)
  | tuple xs => exact kit_ty (a := "tuple") (b := "str") (r := false) (by decide +kernel)
  | dict kv => exact kit_ty (a := "dict") (b := "str") (r := false) (by decide +kernel)
theorem kit_int {K : PySem.W.Frag} (d : PyData) : PySem.W.kitOne K (.type (tyD d)) (.type "int") = some (isInt d) := by
  cases d with
  | none => exact kit_ty (a := "NoneType") (b := "int") (r := false) (by decide +kernel)
  | bool b => exact kit_ty (a := "bool") (b := "int") (r := true) (by decide +kernel)
  | int i => exact kit_ty (a := "int") (b := "int") (r := true) (by decide +kernel)
  | str x => exact kit_ty (a := "str") (b := "int") (r := false) (by decide +kernel)
  | list xs => exact kit_ty (a := "list") (b := "int") (r := false) (by decide +kernel)
  | tuple xs => exact kit_ty (a := "tuple") (b := "int") (r := false) (by decide +kernel)
  | dict kv => exact kit_ty (a := "dict") (b := "int") (r := false) (by decide +kernel)
theorem kit_bool {K : PySem.W.Frag} (d : PyData) : PySem.W.kitOne K (.type (tyD d)) (.type "bool") = some (isBool d) := by
  cases d with
  | none => exact kit_ty (a := "NoneType") (b := "bool") (r := false) (by decide +kernel)
  | bool b => exact kit_ty (a := "bool") (b := "bool") (r := true) (by decide +kernel)
  | int i => exact kit_ty (a := "int") (b := "bool") (r := false) (by decide +kernel)
  | str x => exact kit_ty (a := "str") (b := "bool") (r := false) (by decide +kernel)
  | list xs => exact kit_ty (a := "list") (b := "bool") (r := false) (by decide +kernel)
  | tuple xs => exact kit_ty (a := "tuple") (b := "bool") (r := false) (by decide +kernel)
  | dict kv => exact kit_ty (a := "dict") (b := "bool") (r := false) (by decide +kernel)
theorem ty_of {K : PySem.W.Frag} {H : Hp} {v : V} {d : PyData} (h : Dp K H v d) : TyX K H v (.type (tyD d)) := by
  cases h with
  | non => exact .base .non
  | bl b => exact .base (.bl b)
  | int i => exact .base (.int i)
  | str x => exact .base (.str x)
  | lst hs _ =>
    rcases hs with (h | ⟨o, h⟩) | ⟨o, its, n, h, h2, _⟩
    · exact .base (.lst h)
    · exact .base (.frz h)
    · exact .kList h h2
  | tup hs _ =>
    rcases hs with (h | ⟨o, h⟩) | ⟨o, its, n, h, h2, _⟩
    · exact .base (.tup h)
    · exact .fTuple h
    · exact .kTuple h h2
def tupB (d : PyData) (m : Nat) : Bool := match d with
  | .tuple ds => decide (ds.length = m)
  | _ => false
def inLet (c : Nat) : Bool := !(Builtin.Str.occurrences letters ⟨#[c]⟩ 0 letters.length 1).isEmpty
def nmS (x : Str) : Bool := decide (1 ≤ x.length) && (decide (x.length ≤ 8) && x.cps.toList.all inLet)
def nmB : PyData → Bool
  | .str x => nmS x
  | _ => false
def numB : PyData → Bool
  | .int i => decide ((if i < 0 then -i else i) < (10 : Int) ^ (60 : Int).toNat)
  | _ => false
/-- a row of a let -/
def rowB : PyData → Bool
  | .tuple [a, _] => nmB a
  | _ => false
def rowsB : PyData → Bool
  | .tuple rs => decide (1 ≤ rs.length) && (decide (rs.length ≤ 4) && rs.all rowB)
  | _ => false
def selfK (k : Str) (ds : List PyData) : Bool :=
  if k = "number" then (match ds with | [a] => numB a | _ => false)
  else if k = "name" ∨ k = "fun" then (match ds with | [a] => nmB a | _ => false)
  else if k = "let" then (match ds with | [a, _] => rowsB a | _ => false)
  else match kinds.lookup k with
    | some n => decide (ds.length = n)
    | none => false
def selfB : PyData → Bool
  | .tuple (.str k :: ds) => selfK k ds
  | _ => false
/-- what stands within what is a part by itself -/
def rowI : PyData → PyData
  | .tuple [_, b] => b
  | d => d
def innD : PyData → List PyData
  | .tuple (.str k :: ds) => if k = "let" then (match ds with | [.tuple rs, b] => rs.map rowI ++ [b] | _ => []) else if (kinds.lookup k).isSome then ds else []
  | _ => []
/-- the walk of a body: what waits, how many were met -/
def loopB : Nat → List (PyData × Nat) → Nat → Bool
  | 0, _, _ => false
  | f + 1, ws, c => match ws.getLast? with
    | none => true
    | some (d, k) => if 60 < c + 1 ∨ 12 < k ∨ selfB d = false then false else loopB f (ws.dropLast ++ (innD d).map (fun a => (a, k + 1))) (c + 1)
def bodyB (d : PyData) : Bool := loopB 62 [(d, 1)] 0
def fnB : PyData → Bool
  | .tuple [a, .tuple os, b] => nmB a && (decide (os.length ≤ 4) && (os.all nmB && bodyB b))
  | _ => false
def builtB : PyData → Bool
  | .tuple [.tuple fs, a] => decide (fs.length ≤ 8) && (fs.all fnB && bodyB a)
  | _ => false
end Lz

set_option Elab.async false
set_option linter.all false
set_option maxRecDepth 100000
set_option maxHeartbeats 4000000
/-! Data whose lists are not those of S. -/
namespace Lz
open PySem PySem.Spec PyProof.Rows L2
mutual
inductive DpS (K : PySem.W.Frag) (S : List Addr) (H : Hp) : V → PyData → Prop
  | non : DpS K S H .non .none
  | bl (b : Bool) : DpS K S H (.bl b) (.bool b)
  | int (i : Int) : DpS K S H (.int i) (.int i)
  | str (x : Str) : DpS K S H (.str x) (.str x)
  | lst {a : Addr} {xs : List V} {ds : List PyData} : H a = some (.lst xs) → a ∉ S → DpSs K S H xs ds → DpS K S H (.ref a) (.list ds)
  | tup {a : Addr} {xs : List V} {ds : List PyData} : SqT K H a xs → DpSs K S H xs ds → DpS K S H (.ref a) (.tuple ds)
inductive DpSs (K : PySem.W.Frag) (S : List Addr) (H : Hp) : List V → List PyData → Prop
  | nil : DpSs K S H [] []
  | cons {v : V} {vs : List V} {d : PyData} {ds : List PyData} : DpS K S H v d → DpSs K S H vs ds → DpSs K S H (v :: vs) (d :: ds)
end
section
variable {K : PySem.W.Frag} {S T : List Addr} {H H' : Hp}
mutual
theorem DpS.dp : ∀ (d : PyData) (v : V), DpS K S H v d → Dp K H v d
  | .none, _, h => by cases h; exact .non
  | .bool b, _, h => by cases h; exact .bl b
  | .int i, _, h => by cases h; exact .int i
  | .str x, _, h => by cases h; exact .str x
  | .list ds, _, h => by
    cases h with
    | lst h1 _ h2 => exact .lst (SqL.of h1) (DpSs.dp ds _ h2)
  | .tuple ds, _, h => by
    cases h with
    | tup h1 h2 => exact .tup h1 (DpSs.dp ds _ h2)
  | .dict _, _, h => by cases h
theorem DpSs.dp : ∀ (ds : List PyData) (vs : List V), DpSs K S H vs ds → DpAll K H vs ds
  | [], _, h => by cases h; exact .nil
  | d :: ds, _, h => by
    cases h with
    | cons h1 h2 => exact .cons (DpS.dp d _ h1) (DpSs.dp ds _ h2)
end
mutual
theorem DpS.keep (k : Kp S H H') : ∀ (d : PyData) (v : V), DpS K S H v d → DpS K S H' v d
  | .none, _, h => by cases h; exact .non
  | .bool b, _, h => by cases h; exact .bl b
  | .int i, _, h => by cases h; exact .int i
  | .str x, _, h => by cases h; exact .str x
  | .list ds, _, h => by
    cases h with
    | lst h1 n h2 => exact .lst (k.lst h1 n) n (DpSs.keep k ds _ h2)
  | .tuple ds, _, h => by
    cases h with
    | tup h1 h2 => exact .tup (k.sqT h1) (DpSs.keep k ds _ h2)
  | .dict _, _, h => by cases h
theorem DpSs.keep (k : Kp S H H') : ∀ (ds : List PyData) (vs : List V), DpSs K S H vs ds → DpSs K S H' vs ds
  | [], _, h => by cases h; exact .nil
  | d :: ds, _, h => by
    cases h with
    | cons h1 h2 => exact .cons (DpS.keep k d _ h1) (DpSs.keep k ds _ h2)
end
mutual
/-- data without lists -/
theorem DpS.of : ∀ (d : PyData) (v : V), fz d = true → Dp K H v d → DpS K S H v d
  | .none, _, _, h => by cases h; exact .non
  | .bool b, _, _, h => by cases h; exact .bl b
  | .int i, _, _, h => by cases h; exact .int i
  | .str x, _, _, h => by cases h; exact .str x
  | .list ds, _, f, _ => by
    have : false = true := f
    cases this
  | .tuple ds, _, f, h => by
    cases h with
    | tup hs ha => exact .tup hs (DpSs.of ds _ f ha)
  | .dict _, _, _, h => by cases h
theorem DpSs.of : ∀ (ds : List PyData) (vs : List V), fzAll ds = true → DpAll K H vs ds → DpSs K S H vs ds
  | [], _, _, h => by cases h; exact .nil
  | d :: ds, _, f, h => by
    have f' : fz d = true ∧ fzAll ds = true := by
      have : (fz d && fzAll ds) = true := f
      rwa [Bool.and_eq_true] at this
    cases h with
    | cons h1 h2 => exact .cons (DpS.of d _ f'.1 h1) (DpSs.of ds _ f'.2 h2)
end
theorem DpSs.append {vs ws : List V} {ds es : List PyData} : DpSs K S H vs ds → DpSs K S H ws es → DpSs K S H (vs ++ ws) (ds ++ es) := fun h g => by
  induction ds generalizing vs with
  | nil => cases h; exact g
  | cons d r ih =>
    cases h with
    | cons h1 h2 => exact .cons h1 (ih h2)
theorem DpSs.at {vs : List V} {ds : List PyData} {i : Nat} {v : V} (h : DpSs K S H vs ds) (hi : vs[i]? = some v) : ∃ d, ds[i]? = some d ∧ DpS K S H v d := by
  induction ds generalizing vs i with
  | nil => cases h; simp at hi
  | cons d r ih =>
    cases h with
    | cons h1 h2 =>
      cases i with
      | zero =>
        obtain rfl := Option.some.inj hi
        exact ⟨d, rfl, h1⟩
      | succ i => exact ih h2 hi
mutual
/-- a new list is none of the lists that are there -/
theorem DpS.more {l : Addr} (hl : H l = none) : ∀ (d : PyData) (v : V), DpS K S H v d → DpS K (l :: S) H v d
  | .none, _, h => by cases h; exact .non
  | .bool b, _, h => by cases h; exact .bl b
  | .int i, _, h => by cases h; exact .int i
  | .str x, _, h => by cases h; exact .str x
  | .list ds, _, h => by
    cases h with
    | lst h1 n h2 =>
      refine .lst h1 (fun m => ?_) (DpSs.more hl ds _ h2)
      rcases List.mem_cons.mp m with e | m
      · exact ne_of_none h1 hl e
      · exact n m
  | .tuple ds, _, h => by
    cases h with
    | tup h1 h2 => exact .tup h1 (DpSs.more hl ds _ h2)
  | .dict _, _, h => by cases h
theorem DpSs.more {l : Addr} (hl : H l = none) : ∀ (ds : List PyData) (vs : List V), DpSs K S H vs ds → DpSs K (l :: S) H vs ds
  | [], _, h => by cases h; exact .nil
  | d :: ds, _, h => by
    cases h with
    | cons h1 h2 => exact .cons (DpS.more hl d _ h1) (DpSs.more hl ds _ h2)
end
theorem DpSs.len {vs : List V} {ds : List PyData} (h : DpSs K S H vs ds) : vs.length = ds.length := (DpSs.dp ds vs h).length
theorem DpSs.take : ∀ {vs : List V} {ds : List PyData} (n : Nat), DpSs K S H vs ds → DpSs K S H (vs.take n) (ds.take n)
  | _, _, 0, _ => .nil
  | _, _, _ + 1, .nil => .nil
  | _, _, n + 1, .cons h t => .cons h (DpSs.take n t)
theorem DpSs.drop : ∀ {vs : List V} {ds : List PyData} (n : Nat), DpSs K S H vs ds → DpSs K S H (vs.drop n) (ds.drop n)
  | _, _, 0, h => h
  | _, _, _ + 1, .nil => .nil
  | _, _, n + 1, .cons _ t => DpSs.drop n t
theorem DpS.tup_of {v : V} {ds : List PyData} (h : DpS K S H v (.tuple ds)) : ∃ a xs, v = .ref a ∧ SqT K H a xs ∧ DpSs K S H xs ds := by
  cases h with
  | tup h1 h2 => exact ⟨_, _, rfl, h1, h2⟩
theorem DpS.lst_of {v : V} {ds : List PyData} (h : DpS K S H v (.list ds)) : ∃ a xs, v = .ref a ∧ H a = some (.lst xs) ∧ a ∉ S ∧ DpSs K S H xs ds := by
  cases h with
  | lst h1 h2 h3 => exact ⟨_, _, rfl, h1, h2, h3⟩
mutual
theorem DpS.less (m : ∀ y, y ∈ T → y ∈ S) : ∀ (d : PyData) (v : V), DpS K S H v d → DpS K T H v d
  | .none, _, h => by cases h; exact .non
  | .bool b, _, h => by cases h; exact .bl b
  | .int i, _, h => by cases h; exact .int i
  | .str x, _, h => by cases h; exact .str x
  | .list ds, _, h => by
    cases h with
    | lst h1 n h2 => exact .lst h1 (fun z => n (m _ z)) (DpSs.less m ds _ h2)
  | .tuple ds, _, h => by
    cases h with
    | tup h1 h2 => exact .tup h1 (DpSs.less m ds _ h2)
  | .dict _, _, h => by cases h
theorem DpSs.less (m : ∀ y, y ∈ T → y ∈ S) : ∀ (ds : List PyData) (vs : List V), DpSs K S H vs ds → DpSs K T H vs ds
  | [], _, h => by cases h; exact .nil
  | d :: ds, _, h => by
    cases h with
    | cons h1 h2 => exact .cons (DpS.less m d _ h1) (DpSs.less m ds _ h2)
end
end
end Lz

set_option Elab.async false
set_option linter.all false
set_option maxRecDepth 100000
set_option maxHeartbeats 8000000
namespace Lz
open PySem PySem.Spec PyProof.Rows L2
/-! ### places, what names name: plain Lean -/
/-- what a name names: ("thing", k) or ("row", place) -/
abbrev Nv := Str × Int
/-- the places of parts that stand one behind the other -/
def ipl : Int → List Lz.P → List Int
  | _, [] => []
  | q, a :: as => q :: ipl (q + (a.many : Int)) as
theorem ipl_len : ∀ (q : Int) (as : List Lz.P), (ipl q as).length = as.length
  | _, [] => rfl
  | q, a :: as => by
    show (ipl _ as).length + 1 = as.length + 1
    rw [ipl_len]
theorem ipl_snoc : ∀ (q : Int) (as : List Lz.P) (d : Lz.P), ipl q (as ++ [d]) = ipl q as ++ [q + (Lz.P.manys as : Int)]
  | q, [], d => by
    show [q] = [q + ((0 : Nat) : Int)]
    simp
  | q, a :: as, d => by
    show q :: ipl _ (as ++ [d]) = q :: (ipl _ as ++ [q + ((a.many + Lz.P.manys as : Nat) : Int)])
    rw [ipl_snoc]
    congr 2
    simp
    omega
def rowsOf (q : Int) (d : Lz.P) : List (Str × Nv) := d.own.zip ((ipl (q + 1) d.inn).map fun n => ("row", n))
def rws : Int → List Lz.P → List (Str × Nv)
  | _, [] => []
  | q, d :: ds => rowsOf q d ++ rws (q + 1) ds
def thg : Int → List Str → List (Str × Nv)
  | _, [] => []
  | k, x :: xs => (x, ("thing", k)) :: thg (k + 1) xs
theorem rws_append : ∀ (q : Int) (as bs : List Lz.P), rws q (as ++ bs) = rws q as ++ rws (q + (as.length : Int)) bs
  | q, [], bs => by
    show rws q bs = rws (q + ((0 : Nat) : Int)) bs
    simp
  | q, a :: as, bs => by
    show rowsOf q a ++ rws (q + 1) (as ++ bs) = rowsOf q a ++ rws (q + 1) as ++ rws (q + ((as.length + 1 : Nat) : Int)) bs
    rw [rws_append, List.append_assoc]
    congr 3
    simp
    omega
theorem thg_append : ∀ (k : Int) (as bs : List Str), thg k (as ++ bs) = thg k as ++ thg (k + (as.length : Int)) bs
  | k, [], bs => by
    show thg k bs = thg (k + ((0 : Nat) : Int)) bs
    simp
  | k, a :: as, bs => by
    have e : k + ((as.length + 1 : Nat) : Int) = k + 1 + (as.length : Int) := by omega
    show thg k (a :: (as ++ bs)) = thg k (a :: as) ++ thg (k + ((as.length + 1 : Nat) : Int)) bs
    rw [e, thg, thg_append (k + 1) as bs, thg]
    rfl
theorem thg_fst : ∀ (k : Int) (ns : List Str), (thg k ns).map (·.1) = ns
  | _, [] => rfl
  | k, x :: xs => by
    show x :: (thg (k + 1) xs).map (·.1) = _
    rw [thg_fst]
theorem ownInn {t : Lz.P} (h : t.ok) : t.own.length ≤ t.inn.length := by
  cases t with
  | num i => exact Nat.zero_le _
  | nam x => exact Nat.zero_le _
  | fn x => exact Nat.zero_le _
  | op k as => exact Nat.zero_le _
  | lt nm as b =>
    show nm.length ≤ (as ++ [b]).length
    rw [List.length_append, (show nm.length = as.length from h.1)]
    omega
theorem rowsOf_fst (q : Int) {d : Lz.P} (h : d.ok) : (rowsOf q d).map (·.1) = d.own := by
  unfold rowsOf
  have h1 := ownInn h
  exact List.map_fst_zip (by rw [List.length_map, ipl_len]; exact h1)
theorem rws_fst : ∀ (q : Int) (ds : List Lz.P), (∀ d, d ∈ ds → d.ok) → (rws q ds).map (·.1) = ds.flatMap Lz.P.own
  | _, [], _ => rfl
  | q, d :: ds, h => by
    show (rowsOf q d ++ rws (q + 1) ds).map (·.1) = _
    rw [List.map_append, rowsOf_fst q (h d List.mem_cons_self), rws_fst (q + 1) ds (fun x m => h x (List.mem_cons_of_mem _ m)), List.flatMap_cons]
/-- the first row of this name -/
def lk (L : List (Str × Nv)) (x : Str) : Option Nv := (L.find? fun e => decide (e.1 = x)).map (·.2)
theorem lk_mem : ∀ {L : List (Str × Nv)} {e : Str × Nv}, (L.map (·.1)).Nodup → e ∈ L → lk L e.1 = some e.2
  | [], _, _, m => nomatch m
  | f :: L, e, nd, m => by
    rw [List.map_cons, List.nodup_cons] at nd
    unfold lk
    rw [List.find?_cons]
    rcases List.mem_cons.mp m with rfl | m
    · rw [decide_eq_true rfl]
      rfl
    · have : ¬ f.1 = e.1 := fun q => nd.1 (by rw [q]; exact List.mem_map.mpr ⟨e, m, rfl⟩)
      rw [decide_eq_false this]
      exact lk_mem nd.2 m
theorem lk_in : ∀ {L : List (Str × Nv)} {x : Str} {v : Nv}, lk L x = some v → (x, v) ∈ L
  | [], x, v, h => by cases h
  | f :: L, x, v, h => by
    unfold lk at h
    rw [List.find?_cons] at h
    by_cases q : f.1 = x
    · rw [decide_eq_true q] at h
      obtain rfl := Option.some.inj h
      subst q
      exact List.mem_cons_self
    · rw [decide_eq_false q] at h
      exact List.mem_cons_of_mem _ (lk_in h)
def Lf (ns : List Str) (q : Int) (ds : List Lz.P) : List (Str × Nv) := thg 0 ns ++ rws q ds
def nmd (G : Str → Option Nv) : Lz.P → Option Nv
  | .nam x => G x
  | _ => none
/-- a place's part, the places within it, what it names -/
abbrev Gr := Lz.P × List Int × Option Nv
def grs (G : Str → Option Nv) : Int → List Lz.P → List Gr
  | _, [] => []
  | q, d :: ds => (d, ipl (q + 1) d.inn, nmd G d) :: grs G (q + 1) ds
def nm1 (q : Int) : Option Nv → List (Int × Nv)
  | some v => [(q, v)]
  | none => []
def nmE (G : Str → Option Nv) : Int → List Lz.P → List (Int × Nv)
  | _, [] => []
  | q, d :: ds => nm1 q (nmd G d) ++ nmE G (q + 1) ds
theorem grs_append (G : Str → Option Nv) : ∀ (q : Int) (as bs : List Lz.P), grs G q (as ++ bs) = grs G q as ++ grs G (q + (as.length : Int)) bs
  | q, [], bs => by
    show grs G q bs = grs G (q + ((0 : Nat) : Int)) bs
    simp
  | q, a :: as, bs => by
    show (a, ipl (q + 1) a.inn, nmd G a) :: grs G (q + 1) (as ++ bs) = (a, ipl (q + 1) a.inn, nmd G a) :: (grs G (q + 1) as ++ grs G (q + ((as.length + 1 : Nat) : Int)) bs)
    rw [grs_append]
    congr 3
    simp
    omega
theorem nmE_append (G : Str → Option Nv) : ∀ (q : Int) (as bs : List Lz.P), nmE G q (as ++ bs) = nmE G q as ++ nmE G (q + (as.length : Int)) bs
  | q, [], bs => by
    show nmE G q bs = nmE G (q + ((0 : Nat) : Int)) bs
    simp
  | q, a :: as, bs => by
    show _ ++ nmE G (q + 1) (as ++ bs) = (_ ++ nmE G (q + 1) as) ++ nmE G (q + ((as.length + 1 : Nat) : Int)) bs
    rw [nmE_append, List.append_assoc]
    congr 3
    simp
    omega
theorem grs_len (G : Str → Option Nv) : ∀ (q : Int) (as : List Lz.P), (grs G q as).length = as.length
  | _, [] => rfl
  | q, a :: as => by
    show (grs G _ as).length + 1 = as.length + 1
    rw [grs_len]
theorem grs_at (G : Str → Option Nv) : ∀ (q : Int) (as : List Lz.P) (j : Nat) (d : Lz.P), as[j]? = some d → (grs G q as)[j]? = some (d, ipl (q + (j : Int) + 1) d.inn, nmd G d)
  | q, a :: as, 0, d, h => by
    obtain rfl := Option.some.inj h
    show some (a, ipl (q + 1) a.inn, nmd G a) = some (a, ipl (q + ((0 : Nat) : Int) + 1) a.inn, nmd G a)
    simp
  | q, a :: as, j + 1, d, h => by
    have := grs_at G (q + 1) as j d h
    show (grs G (q + 1) as)[j]? = _
    rw [this, show q + 1 + (j : Int) + 1 = q + ((j + 1 : Nat) : Int) + 1 by omega]
theorem nmE_lt (G : Str → Option Nv) : ∀ (q : Int) (as : List Lz.P) (e : Int × Nv), e ∈ nmE G q as → q ≤ e.1 ∧ e.1 < q + (as.length : Int)
  | _, [], _, m => nomatch m
  | q, a :: as, e, m => by
    rcases List.mem_append.mp (show e ∈ nm1 q (nmd G a) ++ nmE G (q + 1) as from m) with m | m
    · cases h : nmd G a with
      | none => rw [h] at m; cases m
      | some v =>
        rw [h] at m
        rw [List.mem_singleton.mp m]
        show q ≤ q ∧ q < q + ((as.length + 1 : Nat) : Int)
        omega
    · have := nmE_lt G (q + 1) as e m
      show q ≤ e.1 ∧ e.1 < q + ((as.length + 1 : Nat) : Int)
      omega
theorem nmE_at (G : Str → Option Nv) : ∀ (q : Int) (as : List Lz.P) (j : Nat) (d : Lz.P) (v : Nv), as[j]? = some d → nmd G d = some v → (q + (j : Int), v) ∈ nmE G q as
  | q, a :: as, 0, d, v, h, hv => by
    obtain rfl := Option.some.inj h
    refine List.mem_append_left _ ?_
    rw [hv]
    show (q + ((0 : Nat) : Int), v) ∈ [(q, v)]
    simp
  | q, a :: as, j + 1, d, v, h, hv => by
    have := nmE_at G (q + 1) as j d v h hv
    refine List.mem_append_right _ ?_
    rw [show q + ((j + 1 : Nat) : Int) = q + 1 + (j : Int) by omega]
    exact this
/-- data that is kept where only lists of S and dicts change -/
def NoL (S T : List Addr) (H : Hp) : Prop := ∀ x, x ∈ T → ∀ o, H x = some o → (∀ vs, o ≠ .tup vs) ∧ (∀ q u, o ≠ .frz q u) ∧ ∀ vs, o = .lst vs → x ∈ S
section
variable {K : PySem.W.Frag} {S T : List Addr} {H H' : Hp}
theorem NoL.noT (n : NoL S T H) : NoT T H := fun x m o e => ⟨(n x m o e).1, (n x m o e).2.1⟩
mutual
theorem DpS.keepT (k : Ks T H H') (n : NoL S T H) : ∀ (d : PyData) (v : V), DpS K S H v d → DpS K S H' v d
  | .none, _, h => by cases h; exact .non
  | .bool b, _, h => by cases h; exact .bl b
  | .int i, _, h => by cases h; exact .int i
  | .str x, _, h => by cases h; exact .str x
  | .list ds, _, h => by
    cases h with
    | lst hs hn ha => exact .lst (k _ _ hs (fun m => hn ((n _ m _ hs).2.2 _ rfl))) hn (DpSs.keepT k n ds _ ha)
  | .tuple ds, _, h => by
    cases h with
    | tup hs ha => exact .tup (k.sqT n.noT hs) (DpSs.keepT k n ds _ ha)
  | .dict _, _, h => by cases h
theorem DpSs.keepT (k : Ks T H H') (n : NoL S T H) : ∀ (ds : List PyData) (vs : List V), DpSs K S H vs ds → DpSs K S H' vs ds
  | [], _, h => by cases h; exact .nil
  | d :: ds, _, h => by
    cases h with
    | cons h1 h2 => exact .cons (DpS.keepT k n d _ h1) (DpSs.keepT k n ds _ h2)
end
end
end Lz

set_option Elab.async false
set_option linter.all false
set_option maxRecDepth 100000
set_option maxHeartbeats 8000000
namespace Lz
open PySem PySem.Spec PyProof.Rows L2
mutual
/-- what a part names is known to its scope or to a let within -/
theorem nam_known {F : List Str} : ∀ (t : Lz.P) (sc : List Str), t.fit F sc → ∀ x, Lz.P.nam x ∈ t.all → x ∈ sc ∨ x ∈ t.all.flatMap Lz.P.own
  | .num i, sc, h, x, m => by cases List.mem_singleton.mp (show Lz.P.nam x ∈ [Lz.P.num i] from m)
  | .nam y, sc, h, x, m => by
    cases List.mem_singleton.mp (show Lz.P.nam x ∈ [Lz.P.nam y] from m)
    exact .inl h
  | .fn y, sc, h, x, m => by cases List.mem_singleton.mp (show Lz.P.nam x ∈ [Lz.P.fn y] from m)
  | .op k as, sc, h, x, m => by
    rcases List.mem_cons.mp (show Lz.P.nam x ∈ Lz.P.op k as :: Lz.P.alls as from m) with e | m
    · cases e
    · exact nams_known as sc h x m
  | .lt nm as b, sc, h, x, m => by
    have go : x ∈ sc ++ nm ∨ x ∈ (Lz.P.alls as ++ b.all).flatMap Lz.P.own := by
      rcases List.mem_cons.mp (show Lz.P.nam x ∈ Lz.P.lt nm as b :: (Lz.P.alls as ++ b.all) from m) with e | m
      · cases e
      · rw [List.flatMap_append]
        rcases List.mem_append.mp m with m | m
        · exact (nams_known as _ h.2.2.1 x m).imp id (List.mem_append_left _)
        · exact (nam_known b _ h.2.2.2 x m).imp id (List.mem_append_right _)
    show x ∈ sc ∨ x ∈ nm ++ (Lz.P.alls as ++ b.all).flatMap Lz.P.own
    rcases go with g | g
    · rcases List.mem_append.mp g with g | g
      · exact .inl g
      · exact .inr (List.mem_append_left _ g)
    · exact .inr (List.mem_append_right _ g)
theorem nams_known {F : List Str} : ∀ (as : List Lz.P) (sc : List Str), Lz.P.fits F as sc → ∀ x, Lz.P.nam x ∈ Lz.P.alls as → x ∈ sc ∨ x ∈ (Lz.P.alls as).flatMap Lz.P.own
  | [], sc, h, x, m => nomatch m
  | a :: as, sc, h, x, m => by
    show x ∈ sc ∨ x ∈ (a.all ++ Lz.P.alls as).flatMap Lz.P.own
    rw [List.flatMap_append]
    rcases List.mem_append.mp (show Lz.P.nam x ∈ a.all ++ Lz.P.alls as from m) with m | m
    · exact (nam_known a sc h.1 x m).imp id (List.mem_append_left _)
    · exact (nams_known as sc h.2 x m).imp id (List.mem_append_right _)
end
mutual
theorem all_own4 {F : List Str} : ∀ (t : Lz.P) (sc : List Str), t.fit F sc → ∀ d, d ∈ t.all → d.own.length ≤ 4
  | .num i, sc, h, d, m => by rw [List.mem_singleton.mp (show d ∈ [Lz.P.num i] from m)]; exact Nat.zero_le _
  | .nam y, sc, h, d, m => by rw [List.mem_singleton.mp (show d ∈ [Lz.P.nam y] from m)]; exact Nat.zero_le _
  | .fn y, sc, h, d, m => by rw [List.mem_singleton.mp (show d ∈ [Lz.P.fn y] from m)]; exact Nat.zero_le _
  | .op k as, sc, h, d, m => by
    rcases List.mem_cons.mp (show d ∈ Lz.P.op k as :: Lz.P.alls as from m) with e | m
    · rw [e]; exact Nat.zero_le _
    · exact alls_own4 as sc h d m
  | .lt nm as b, sc, h, d, m => by
    rcases List.mem_cons.mp (show d ∈ Lz.P.lt nm as b :: (Lz.P.alls as ++ b.all) from m) with e | m
    · rw [e]; exact h.2.1
    · rcases List.mem_append.mp m with m | m
      · exact alls_own4 as _ h.2.2.1 d m
      · exact all_own4 b _ h.2.2.2 d m
theorem alls_own4 {F : List Str} : ∀ (as : List Lz.P) (sc : List Str), Lz.P.fits F as sc → ∀ d, d ∈ Lz.P.alls as → d.own.length ≤ 4
  | [], sc, h, d, m => nomatch m
  | a :: as, sc, h, d, m => by
    rcases List.mem_append.mp (show d ∈ a.all ++ Lz.P.alls as from m) with m | m
    · exact all_own4 a sc h.1 d m
    · exact alls_own4 as sc h.2 d m
end
mutual
theorem all_small : ∀ (t : Lz.P) (d : Lz.P), d ∈ t.all → d.many ≤ t.many
  | .num i, d, m => by rw [List.mem_singleton.mp (show d ∈ [Lz.P.num i] from m)]; exact Nat.le_refl _
  | .nam y, d, m => by rw [List.mem_singleton.mp (show d ∈ [Lz.P.nam y] from m)]; exact Nat.le_refl _
  | .fn y, d, m => by rw [List.mem_singleton.mp (show d ∈ [Lz.P.fn y] from m)]; exact Nat.le_refl _
  | .op k as, d, m => by
    rcases List.mem_cons.mp (show d ∈ Lz.P.op k as :: Lz.P.alls as from m) with e | m
    · rw [e]; exact Nat.le_refl _
    · have := alls_small as d m
      show d.many ≤ 1 + Lz.P.manys as
      omega
  | .lt nm as b, d, m => by
    show d.many ≤ 1 + (Lz.P.manys as + b.many)
    rcases List.mem_cons.mp (show d ∈ Lz.P.lt nm as b :: (Lz.P.alls as ++ b.all) from m) with e | m
    · rw [e]; exact Nat.le_refl _
    · rcases List.mem_append.mp m with m | m
      · have := alls_small as d m
        omega
      · have := all_small b d m
        omega
theorem alls_small : ∀ (as : List Lz.P) (d : Lz.P), d ∈ Lz.P.alls as → d.many ≤ Lz.P.manys as
  | [], d, m => nomatch m
  | a :: as, d, m => by
    show d.many ≤ a.many + Lz.P.manys as
    rcases List.mem_append.mp (show d ∈ a.all ++ Lz.P.alls as from m) with m | m
    · have := all_small a d m
      omega
    · have := alls_small as d m
      omega
end
/-! ### the table of places -/
def sf (p i m n b w : Addr) : List (Str × V) := [("_parts", .ref p), ("_inner", .ref i), ("_many_names", .ref m), ("_named", .ref n), ("_bodies", .ref b), ("_wanted", .ref w)]
section
variable (p i m n b w : Addr)
theorem sf_p : (sf p i m n b w).lookup ("_parts" : Str) = some (.ref p) := by
  unfold sf
  rw [look_cons, if_pos rfl]
theorem sf_i : (sf p i m n b w).lookup ("_inner" : Str) = some (.ref i) := by
  unfold sf
  rw [look_cons, if_neg (by decide +kernel), look_cons, if_pos rfl]
theorem sf_m : (sf p i m n b w).lookup ("_many_names" : Str) = some (.ref m) := by
  unfold sf
  rw [look_cons, if_neg (by decide +kernel), look_cons, if_neg (by decide +kernel), look_cons, if_pos rfl]
theorem sf_n : (sf p i m n b w).lookup ("_named" : Str) = some (.ref n) := by
  unfold sf
  rw [look_cons, if_neg (by decide +kernel), look_cons, if_neg (by decide +kernel), look_cons, if_neg (by decide +kernel), look_cons, if_pos rfl]
theorem sf_b : (sf p i m n b w).lookup ("_bodies" : Str) = some (.ref b) := by
  unfold sf
  rw [look_cons, if_neg (by decide +kernel), look_cons, if_neg (by decide +kernel), look_cons, if_neg (by decide +kernel), look_cons, if_neg (by decide +kernel), look_cons, if_pos rfl]
theorem sf_w : (sf p i m n b w).lookup ("_wanted" : Str) = some (.ref w) := by
  unfold sf
  rw [look_cons, if_neg (by decide +kernel), look_cons, if_neg (by decide +kernel), look_cons, if_neg (by decide +kernel), look_cons, if_neg (by decide +kernel), look_cons, if_neg (by decide +kernel), look_cons, if_pos rfl]
theorem sf_no {x : Str} (h1 : ¬ x = "_parts") (h2 : ¬ x = "_inner") (h3 : ¬ x = "_many_names") (h4 : ¬ x = "_named") (h5 : ¬ x = "_bodies") (h6 : ¬ x = "_wanted") : (sf p i m n b w).lookup x = none := by
  unfold sf
  rw [look_cons, if_neg h1, look_cons, if_neg h2, look_cons, if_neg h3, look_cons, if_neg h4, look_cons, if_neg h5, look_cons, if_neg h6]
  rfl
end
structure SC (K : PySem.W.Frag) (C : Addr) : Prop where
  cl : Cls K C
  n1 : NoAttr K C "_parts"
  n2 : NoAttr K C "_inner"
  n3 : NoAttr K C "_many_names"
  n4 : NoAttr K C "_named"
  n5 : NoAttr K C "_bodies"
  n6 : NoAttr K C "_wanted"
/-- all is kept but the dict at D -/
def Kd (D : Addr) (H H' : Hp) : Prop := ∀ b o, H b = some o → b ≠ D → H' b = some o
theorem Kd.at (D : Addr) (H : Hp) (o : HO) : Kd D H (upd H D o) := fun b x e n => by
  rw [upd_ne n]
  exact e
section
variable {K : PySem.W.Frag} {D C : Addr} {H H' : Hp} {kv : List (Key × V)} {a r p i m n b w : Addr} {ts : List Lz.P}
theorem Kd.lst {xs : List V} (k : Kd D H H') (h : H a = some (.lst xs)) (hD : H D = some (.dK kv)) : H' a = some (.lst xs) := k _ _ h (fun e => by rw [e, hD] at h; cases h)
theorem Kd.ks (k : Kd D H H') : Ks [D] H H' := fun b o e q => k b o e (fun z => q (by rw [z]; exact List.mem_cons_self))
theorem noT_d (hD : H D = some (.dK kv)) : NoT [D] H := fun x m o e => by
  rw [List.mem_singleton.mp m, hD] at e
  cases e
  exact ⟨fun _ z => (nomatch z), fun _ _ z => (nomatch z)⟩
theorem Kd.all {xs : List V} {ds : List PyData} (k : Kd D H H') (hD : H D = some (.dK kv)) (f : fzAll ds = true) (h : DpAll K H xs ds) : DpAll K H' xs ds := Dp.keepAllS k.ks (noT_d hD) _ _ f h
end
def grInn (g : Lz.P × List Int) : PyData := .list (g.2.map .int)
theorem intsS {K : PySem.W.Frag} {S : List Addr} {H : Hp} : ∀ l : List Int, DpSs K S H (l.map V.int) (l.map PyData.int)
  | [] => .nil
  | x :: l => .cons (.int x) (intsS l)
/-- the table of places, told exactly -/
structure SpE (K : PySem.W.Frag) (C : Addr) (S : List Addr) (H : Hp) (r p i m n b w : Addr) (ps : List (Lz.P × List Int)) (nm : List (Int × Nv)) (bd wt : List (Str × Int)) : Prop where
  ob : ∃ dx, H r = some (.ins C dx (sf p i m n b w))
  hp : ∃ xs, H p = some (.lst xs) ∧ DpAll K H xs (Lz.P.datas (ps.map (·.1)))
  hi : ∃ ys, H i = some (.lst ys) ∧ DpSs K (p :: i :: m :: S) H ys (ps.map grInn)
  hm : ∃ zs, H m = some (.lst zs) ∧ zs.length = ps.length
  hn : ∃ kv, H n = some (.dK kv) ∧ kv.length ≤ ps.length ∧ ∀ e, e ∈ nm → ∃ a, valV kv (Sum.inl e.1) = some (.ref a) ∧ SqT K H a [.str e.2.1, .int e.2.2]
  hb : ∃ kv, H b = some (.dK kv) ∧ kv.length ≤ 20 ∧ ∀ e, e ∈ bd → valV kv (Sum.inr e.1) = some (.int e.2)
  hw : ∃ kv, H w = some (.dK kv) ∧ kv.length ≤ 20 ∧ ∀ e, e ∈ wt → valV kv (Sum.inr e.1) = some (.int e.2)
  n1 : p ≠ i
  n2 : p ≠ m
  n3 : i ≠ m
  n4 : n ≠ b
  n5 : n ≠ w
  n6 : b ≠ w
  av : ∀ x, x ∈ [r, p, i, m, n, b, w] → ¬ x ∈ S
section
variable {K : PySem.W.Frag} {C : Addr} {S : List Addr} {H H' : Hp} {r p i m n b w : Addr} {ps : List (Lz.P × List Int)} {nm : List (Int × Nv)} {bd wt : List (Str × Int)}
/-- kept where nothing of it changes -/
theorem SpE.keepT {T : List Addr} (h : SpE K C S H r p i m n b w ps nm bd wt) (k : Ks T H H') (n0 : NoL (p :: i :: m :: S) T H) (ho : ∀ x, x ∈ [r, p, i, m, n, b, w] → ¬ x ∈ T) : SpE K C S H' r p i m n b w ps nm bd wt := by
  obtain ⟨⟨dx, h0⟩, ⟨xs, h1, hx⟩, ⟨ys, h2, hy⟩, ⟨zs, h3, l3⟩, ⟨k4, h4, l4, g4⟩, ⟨k5, h5, l5, g5⟩, ⟨k6, h6, l6, g6⟩, n1, n2, n3, n4, n5, n6, av⟩ := h
  have go : ∀ {a o}, H a = some o → a ∈ [r, p, i, m, n, b, w] → H' a = some o := fun e q => k _ _ e (ho _ q)
  exact ⟨⟨dx, go h0 (by simp)⟩, ⟨xs, go h1 (by simp), Dp.keepAllS k n0.noT _ _ (datas_fz _) hx⟩, ⟨ys, go h2 (by simp), DpSs.keepT k n0 _ _ hy⟩, ⟨zs, go h3 (by simp), l3⟩, ⟨k4, go h4 (by simp), l4, fun e me => by
    obtain ⟨a, q1, q2⟩ := g4 e me
    exact ⟨a, q1, k.sqT n0.noT q2⟩⟩, ⟨k5, go h5 (by simp), l5, g5⟩, ⟨k6, go h6 (by simp), l6, g6⟩, n1, n2, n3, n4, n5, n6, av⟩
theorem SpE.keep (h : SpE K C S H r p i m n b w ps nm bd wt) (k : Kp [] H H') : SpE K C S H' r p i m n b w ps nm bd wt :=
  h.keepT (T := []) (fun b o e _ => k b o e (fun m => nomatch m)) (fun x m => nomatch m) (fun _ _ m => nomatch m)
/-- a place more -/
theorem SpE.more {v y z : V} {d : Lz.P} {l : List Int} {xs ys zs : List V} (h : SpE K C S H r p i m n b w ps nm bd wt) (h1 : H p = some (.lst xs)) (h2 : H i = some (.lst ys)) (h3 : H m = some (.lst zs)) (hv : Dp K H v d.data) (hy : DpS K (p :: i :: m :: S) H y (grInn (d, l))) :
    SpE K C S (upd (upd (upd H p (.lst (xs ++ [v]))) i (.lst (ys ++ [y]))) m (.lst (zs ++ [z]))) r p i m n b w (ps ++ [(d, l)]) nm bd wt := by
  obtain ⟨⟨dx, h0⟩, ⟨xs', h1', hx⟩, ⟨ys', h2', hys⟩, ⟨zs', h3', l3⟩, ⟨k4, h4, l4, g4⟩, ⟨k5, h5, l5, g5⟩, ⟨k6, h6, l6, g6⟩, n1, n2, n3, n4, n5, n6, av⟩ := h
  obtain rfl := HO.lst.inj (Option.some.inj (h1.symm.trans h1'))
  obtain rfl := HO.lst.inj (Option.some.inj (h2.symm.trans h2'))
  obtain rfl := HO.lst.inj (Option.some.inj (h3.symm.trans h3'))
  have kk : Kp [p, i, m] H (upd (upd (upd H p (.lst (xs ++ [v]))) i (.lst (ys ++ [y]))) m (.lst (zs ++ [z]))) := by
    refine (Kp.put h1 (by simp)).trans ((Kp.put (xs := ys) ?_ (by simp)).trans (Kp.put (xs := zs) ?_ (by simp)))
    · rw [upd_ne n1.symm]; exact h2
    · rw [upd_ne n3.symm, upd_ne n2.symm]; exact h3
  have k2 : Kp (p :: i :: m :: S) H (upd (upd (upd H p (.lst (xs ++ [v]))) i (.lst (ys ++ [y]))) m (.lst (zs ++ [z]))) := kk.mono fun x mx => by
    simp only [List.mem_cons, List.not_mem_nil, or_false] at mx ⊢
    rcases mx with q | q | q
    · exact .inl q
    · exact .inr (.inl q)
    · exact .inr (.inr (.inl q))
  have go : ∀ {a o}, H a = some o → (∀ xs, o ≠ .lst xs) → (upd (upd (upd H p (.lst (xs ++ [v]))) i (.lst (ys ++ [y]))) m (.lst (zs ++ [z]))) a = some o := fun e q => kk _ _ e (fun _ => q)
  refine ⟨⟨dx, go h0 (fun _ e => nomatch e)⟩, ⟨xs ++ [v], ?_, ?_⟩, ⟨ys ++ [y], ?_, ?_⟩, ⟨zs ++ [z], upd_same, by rw [List.length_append, List.length_append, l3]; rfl⟩, ⟨k4, go h4 (fun _ e => nomatch e), by rw [List.length_append]; omega, fun e me => ?_⟩, ⟨k5, go h5 (fun _ e => nomatch e), l5, g5⟩, ⟨k6, go h6 (fun _ e => nomatch e), l6, g6⟩, n1, n2, n3, n4, n5, n6, av⟩
  · rw [upd_ne n2, upd_ne n1, upd_same]
  · rw [datas_map, List.map_append, List.map_append, ← datas_map]
    exact (Dp.keepAll kk _ _ (datas_fz _) hx).append (.one (Dp.keep kk _ _ (data_fz _) hv))
  · rw [upd_ne n3, upd_same]
  · rw [List.map_append]
    exact (DpSs.keep k2 _ _ hys).append (.cons (DpS.keep k2 _ _ hy) .nil)
  · obtain ⟨a, q1, q2⟩ := g4 e me
    exact ⟨a, q1, kk.sqT q2⟩
/-- the dict at D changes, which is none of its own -/
theorem SpE.keepD {D : Addr} {kv : List (Key × V)} (h : SpE K C S H r p i m n b w ps nm bd wt) (k : Kd D H H') (hD : H D = some (.dK kv)) (hn : D ≠ n ∧ D ≠ b ∧ D ≠ w) : SpE K C S H' r p i m n b w ps nm bd wt := by
  obtain ⟨⟨dx, h0⟩, ⟨xs, h1, hx⟩, ⟨ys, h2, l2⟩, ⟨zs, h3, l3⟩, _⟩ := id h
  refine h.keepT k.ks (fun x mx o e => ?_) (fun x mx q => ?_)
  · rw [List.mem_singleton.mp mx, hD] at e
    cases e
    exact ⟨fun _ z => (nomatch z), fun _ _ z => (nomatch z), fun _ z => (nomatch z)⟩
  · rw [List.mem_singleton.mp q] at mx
    simp only [List.mem_cons, List.not_mem_nil, or_false] at mx
    rcases mx with e | e | e | e | e | e | e
    · rw [← e, hD] at h0; cases h0
    · rw [← e, hD] at h1; cases h1
    · rw [← e, hD] at h2; cases h2
    · rw [← e, hD] at h3; cases h3
    · exact hn.1 e
    · exact hn.2.1 e
    · exact hn.2.2 e
theorem noL_d {D : Addr} {kv : List (Key × V)} (hD : H D = some (.dK kv)) : NoL S [D] H := fun x mx o e => by
  rw [List.mem_singleton.mp mx, hD] at e
  cases e
  exact ⟨fun _ z => (nomatch z), fun _ _ z => (nomatch z), fun _ z => (nomatch z)⟩
/-- one of its dicts changes -/
theorem SpE.named {kv kv' : List (Key × V)} {nm' : List (Int × Nv)} (h : SpE K C S H r p i m n b w ps nm bd wt) (hn : H n = some (.dK kv)) (hl : kv'.length ≤ ps.length) (hg : ∀ e, e ∈ nm' → ∃ a, valV kv' (Sum.inl e.1) = some (.ref a) ∧ SqT K H a [.str e.2.1, .int e.2.2]) : SpE K C S (upd H n (.dK kv')) r p i m n b w ps nm' bd wt := by
  have kD : Kd n H (upd H n (.dK kv')) := Kd.at _ _ _
  obtain ⟨⟨dx, h0⟩, ⟨xs, h1, hx⟩, ⟨ys, h2, l2⟩, ⟨zs, h3, l3⟩, _, ⟨k5, h5, l5⟩, ⟨k6, h6, l6⟩, n1, n2, n3, n4, n5, n6, av⟩ := h
  exact ⟨⟨dx, kD _ _ h0 (fun e => by rw [e, hn] at h0; cases h0)⟩, ⟨xs, kD.lst h1 hn, kD.all hn (datas_fz _) hx⟩, ⟨ys, kD.lst h2 hn, DpSs.keepT kD.ks (noL_d hn) _ _ l2⟩, ⟨zs, kD.lst h3 hn, l3⟩, ⟨kv', upd_same, hl, fun e me => by
    obtain ⟨a, q1, q2⟩ := hg e me
    exact ⟨a, q1, kD.ks.sqT (noT_d hn) q2⟩⟩, ⟨k5, kD _ _ h5 n4.symm, l5⟩, ⟨k6, kD _ _ h6 n5.symm, l6⟩, n1, n2, n3, n4, n5, n6, av⟩
theorem SpE.bodies {kv kv' : List (Key × V)} {bd' : List (Str × Int)} (h : SpE K C S H r p i m n b w ps nm bd wt) (hb : H b = some (.dK kv)) (hl : kv'.length ≤ 20) (hg : ∀ e, e ∈ bd' → valV kv' (Sum.inr e.1) = some (.int e.2)) : SpE K C S (upd H b (.dK kv')) r p i m n b w ps nm bd' wt := by
  have kD : Kd b H (upd H b (.dK kv')) := Kd.at _ _ _
  obtain ⟨⟨dx, h0⟩, ⟨xs, h1, hx⟩, ⟨ys, h2, l2⟩, ⟨zs, h3, l3⟩, ⟨k4, h4, l4, g4⟩, _, ⟨k6, h6, l6⟩, n1, n2, n3, n4, n5, n6, av⟩ := h
  exact ⟨⟨dx, kD _ _ h0 (fun e => by rw [e, hb] at h0; cases h0)⟩, ⟨xs, kD.lst h1 hb, kD.all hb (datas_fz _) hx⟩, ⟨ys, kD.lst h2 hb, DpSs.keepT kD.ks (noL_d hb) _ _ l2⟩, ⟨zs, kD.lst h3 hb, l3⟩, ⟨k4, kD _ _ h4 n4, l4, fun e me => by
    obtain ⟨a, q1, q2⟩ := g4 e me
    exact ⟨a, q1, kD.ks.sqT (noT_d hb) q2⟩⟩, ⟨kv', upd_same, hl, hg⟩, ⟨k6, kD _ _ h6 n6.symm, l6⟩, n1, n2, n3, n4, n5, n6, av⟩
theorem SpE.wanted {kv kv' : List (Key × V)} {wt' : List (Str × Int)} (h : SpE K C S H r p i m n b w ps nm bd wt) (hw : H w = some (.dK kv)) (hl : kv'.length ≤ 20) (hg : ∀ e, e ∈ wt' → valV kv' (Sum.inr e.1) = some (.int e.2)) : SpE K C S (upd H w (.dK kv')) r p i m n b w ps nm bd wt' := by
  have kD : Kd w H (upd H w (.dK kv')) := Kd.at _ _ _
  obtain ⟨⟨dx, h0⟩, ⟨xs, h1, hx⟩, ⟨ys, h2, l2⟩, ⟨zs, h3, l3⟩, ⟨k4, h4, l4, g4⟩, ⟨k5, h5, l5⟩, _, n1, n2, n3, n4, n5, n6, av⟩ := h
  exact ⟨⟨dx, kD _ _ h0 (fun e => by rw [e, hw] at h0; cases h0)⟩, ⟨xs, kD.lst h1 hw, kD.all hw (datas_fz _) hx⟩, ⟨ys, kD.lst h2 hw, DpSs.keepT kD.ks (noL_d hw) _ _ l2⟩, ⟨zs, kD.lst h3 hw, l3⟩, ⟨k4, kD _ _ h4 n5, l4, fun e me => by
    obtain ⟨a, q1, q2⟩ := g4 e me
    exact ⟨a, q1, kD.ks.sqT (noT_d hw) q2⟩⟩, ⟨k5, kD _ _ h5 n6, l5⟩, ⟨kv', upd_same, hl, hg⟩, n1, n2, n3, n4, n5, n6, av⟩
end
/-- what is known of names: each row of this list -/
def Kn (K : PySem.W.Frag) (H : Hp) (kk : List (Key × V)) (L : List (Str × Nv)) : Prop := ∀ e, e ∈ L → ∃ a, valV kk (Sum.inr e.1) = some (.ref a) ∧ SqT K H a [.str e.2.1, .int e.2.2]
section
variable {K : PySem.W.Frag} {H H' : Hp} {kk : List (Key × V)} {L : List (Str × Nv)}
theorem Kn.mono (h : Kn K H kk L) (k : ∀ {a xs}, SqT K H a xs → SqT K H' a xs) : Kn K H' kk L := fun e m => by
  obtain ⟨a, q1, q2⟩ := h e m
  exact ⟨a, q1, k q2⟩
theorem Kn.put (h : Kn K H kk L) {y : Str} {v : Nv} {T : Addr} (hT : SqT K H T [.str v.1, .int v.2]) (no : ∀ e, e ∈ L → ¬ e.1 = y) : Kn K H (putK kk (Sum.inr y) (.ref T)) (L ++ [(y, v)]) := fun e m => by
  rcases List.mem_append.mp m with m | m
  · obtain ⟨a, q1, q2⟩ := h e m
    refine ⟨a, ?_, q2⟩
    rw [valV_put, if_neg (fun q => no e m (Sum.inr.inj q))]
    exact q1
  · rw [List.mem_singleton.mp m]
    refine ⟨T, ?_, hT⟩
    rw [valV_put, if_pos rfl]
end
def spPlacesX (K : PySem.W.Frag) : Sp := fun vs H Q _ => ∃ (pl : Int) (v : V) (t : Lz.P), vs = [.int pl, v] ∧ Dp K H v t.data ∧ t.ok ∧ t.many ≤ 1000 ∧ t.deep ≤ 12 ∧ ∀ (l : Addr) (H' : Hp), Kp [] H H' → H l = none → H' l = some (.lst ((ipl (pl + 1) t.inn).map V.int)) → Q (.ref l) H'
section
variable {P : Program} {w : World} {K : PySem.W.Frag} {mg : Str → Option Value} {base : Heap} {f C : Addr} {fd : FuncData}
theorem ok_placesX {j : Nat} (hj : 1 ≤ j) (F : Fun K "inner_places" "inner_places" sInnerPlaces f fd) (CWithin : C8.Cal P w K mg base 1 "within" (spInn K) []) (CManyIn : C8.Cal P w K mg base j "many_in" (spMany K 12) []) : FnOk P w K mg base CX0 (j + 1) f fd ["place", "part"] (spPlacesX K) := by
  refine F.ok scInnerPlaces (fun vs H Q E h => ?_) (fun cdv A outer s H vs Q E hr h => ?_)
  · obtain ⟨pl, v, t, rfl, _⟩ := h
    rfl
  obtain ⟨pl, v, t, rfl, hd, hok, hmany, hdeep, q⟩ := h
  refine ⟨_, (pss_cons (ps_set (i := 2) scInnerPlaces.nd rfl (.inl rfl) (pe_lst pa_nil))
    (pss_cons (ps_set (i := 3) scInnerPlaces.nd rfl (.inl rfl) (pe_op op_add (pv 0) pe_int))
    (pss_cons (ps_for PassesOwn.never rfl (pi_listK (K := K) rfl (C8.pe_c CWithin hr (by first | decide | omega) (by rfl) (pa_cons (pv 1) pa_nil))) (pg_name (i := 4) scInnerPlaces.nd rfl (.inl rfl)) (pss_cons (ps_expr (pe_bmK (K := K) rfl PySem.F.plainAttrs_list PySem.F.slot_list_append PySem.F.type_list_append mt_append (pv 2) (pa_cons (pv 3) pa_nil)))
    (pss_one (ps_aug (i := 3) scInnerPlaces.nd rfl (.inl rfl) (C8.pe_c CManyIn hr (by first | decide | omega) (by rfl) (pa_cons (pv 4) pa_nil)) ip_add))))
    (pss_one (ps_ret (pv 2)))))), ?_⟩
  refine ⟨Nat.zero_le _, fun L hL => ?_⟩
  have k1 : Kp [] H (upd H L (.lst [])) := Kp.new hL
  have hL1 : (upd H L (.lst [])) L = some (.lst (([] : List Int).map V.int)) := upd_same
  have hd1 := Dp.keep k1 _ _ (data_fz _) hd
  generalize upd H L (.lst []) = H1 at k1 hL1 hd1 ⊢
  refine ⟨_, rfl, _, _, rfl, rfl, ?_⟩
  have hlen := inn_len hmany
  refine ⟨_, rfl, v, t, rfl, hd1, hok, hmany, fun l xs H2 k2 hl0 hl hx => ?_⟩
  have hL2 := k2.lst hL1 (fun m => nomatch m)
  have nLl : L ≠ l := fun e => by rw [← e, hL1] at hl0; cases hl0
  have hxl : xs.length = t.inn.length := by rw [hx.length, datas_len]
  refine ⟨l, rfl, ⟨_, SqL.of hl⟩, for_list (K := K) (a := l) (xs := xs) (fun i σ H' => ∃ (v4 : Option V), σ = [some (.int pl), some v, some (.ref L), some (.int (pl + 1 + (Lz.P.manys (t.inn.take i) : Int))), v4] ∧ Kp [] H H' ∧ H' L = some (.lst ((ipl (pl + 1) (t.inn.take i)).map V.int)) ∧ H' l = some (.lst xs) ∧ DpAll K H' xs (Lz.P.datas t.inn))
    ⟨_, by rw [List.take_zero]; show _ = [_, _, _, some (V.int (pl + 1 + ((0 : Nat) : Int))), _]; rw [Int.natCast_zero, Int.add_zero]; rfl, k1.trans k2, hL2, hl, hx⟩ (fun i σ H' _ ⟨_, _, _, _, h, _⟩ => SqL.of h) ?_ ?_⟩
  · rintro i x σ H3 hi ⟨v4, rfl, k3, hL3, hl3, hx3⟩
    have hil := (List.getElem?_eq_some_iff.mp hi).1
    obtain ⟨d, had, hdd⟩ := at_inn hx3 hi
    obtain ⟨dok, dm, ddp⟩ := inn_fits (n := 11) hok hmany (by omega) had
    refine ⟨_, rfl, .inl ⟨rfl, _, SqL.of hL3⟩, _, rfl, L, _, _, rfl, rfl, hL3, small1000 (by rw [List.length_map, ipl_len, List.length_take]; omega), ?_⟩
    have e2 : (ipl (pl + 1) (t.inn.take i)).map V.int ++ [V.int (pl + 1 + (Lz.P.manys (t.inn.take i) : Int))] = (ipl (pl + 1) (t.inn.take (i + 1))).map V.int := by
      rw [List.take_add_one, had]
      show _ = (ipl (pl + 1) (t.inn.take i ++ [d])).map V.int
      rw [ipl_snoc, List.map_append]
      rfl
    rw [e2]
    have kk : Kp [L] H3 (upd H3 L (.lst ((ipl (pl + 1) (t.inn.take (i + 1))).map V.int))) := Kp.put hL3 List.mem_cons_self
    have hl4 := kk.lst hl3 (fun m => nLl (List.mem_singleton.mp m).symm)
    have hd4 := Dp.keep kk _ _ (data_fz _) hdd
    have hx4 := Dp.keepAll kk _ _ (datas_fz _) hx3
    have hL4 : (upd H3 L (.lst ((ipl (pl + 1) (t.inn.take (i + 1))).map V.int))) L = some (.lst ((ipl (pl + 1) (t.inn.take (i + 1))).map V.int)) := upd_same
    have k4 := k3.mut hL (o := .lst ((ipl (pl + 1) (t.inn.take (i + 1))).map V.int))
    generalize upd H3 L (.lst ((ipl (pl + 1) (t.inn.take (i + 1))).map V.int)) = H4 at hl4 hd4 hx4 hL4 k4 ⊢
    refine ⟨_, rfl, _, rfl, x, d, rfl, hd4, dok, dm, by omega, fun H5 k5 => ?_⟩
    refine ⟨_, _, rfl, rfl, ?_⟩
    have e3 : pl + 1 + (Lz.P.manys (t.inn.take i) : Int) + (d.many : Int) = pl + 1 + (Lz.P.manys (t.inn.take (i + 1)) : Int) := by
      rw [List.take_add_one, had, manys_append]
      show _ = pl + 1 + ((Lz.P.manys (t.inn.take i) + (d.many + 0) : Nat) : Int)
      omega
    exact ⟨_, by show [_, _, _, some (V.int (pl + 1 + (Lz.P.manys (t.inn.take i) : Int) + (d.many : Int))), _] = _; rw [e3], k4.trans k5, k5.lst hL4 (fun m => nomatch m), k5.lst hl4 (fun m => nomatch m), Dp.keepAll k5 _ _ (datas_fz _) hx4⟩
  · rintro σ H3 ⟨v4, rfl, k3, hL3, hl3, hx3⟩
    rw [hxl, List.take_length] at hL3
    exact ⟨_, rfl, q L H3 k3 hL hL3⟩
end
end Lz

set_option Elab.async false
set_option linter.all false
set_option maxRecDepth 100000
set_option maxHeartbeats 8000000
namespace Lz
open PySem PySem.Spec PyProof.Rows L2
def psOf : Int → List Lz.P → List (Lz.P × List Int)
  | _, [] => []
  | q, d :: ds => (d, ipl (q + 1) d.inn) :: psOf (q + 1) ds
theorem psOf_append : ∀ (q : Int) (as bs : List Lz.P), psOf q (as ++ bs) = psOf q as ++ psOf (q + (as.length : Int)) bs
  | q, [], bs => by
    show psOf q bs = psOf (q + ((0 : Nat) : Int)) bs
    simp
  | q, a :: as, bs => by
    have e : q + ((as.length + 1 : Nat) : Int) = q + 1 + (as.length : Int) := by omega
    show psOf q (a :: (as ++ bs)) = psOf q (a :: as) ++ psOf (q + ((as.length + 1 : Nat) : Int)) bs
    rw [e, psOf, psOf_append (q + 1) as bs, psOf]
    rfl
theorem psOf_len : ∀ (q : Int) (as : List Lz.P), (psOf q as).length = as.length
  | _, [] => rfl
  | q, a :: as => by
    show (psOf _ as).length + 1 = as.length + 1
    rw [psOf_len]
theorem psOf_fst : ∀ (q : Int) (as : List Lz.P), (psOf q as).map (·.1) = as
  | _, [] => rfl
  | q, a :: as => by
    show a :: (psOf _ as).map (·.1) = a :: as
    rw [psOf_fst]
theorem psOf_grs (G : Str → Option Nv) : ∀ (q : Int) (as : List Lz.P), (grs G q as).map (fun g => (g.1, g.2.1)) = psOf q as
  | _, [] => rfl
  | q, a :: as => by
    show (a, ipl (q + 1) a.inn) :: (grs G (q + 1) as).map (fun g => (g.1, g.2.1)) = _
    rw [psOf_grs]
    rfl
theorem rows_names {ns : List Str} {q : Int} {ds : List Lz.P} (h : ∀ d, d ∈ ds → d.ok) : (Lf ns q ds).map (·.1) = ns ++ ds.flatMap Lz.P.own := by
  unfold Lf
  rw [List.map_append, thg_fst, rws_fst q ds h]
theorem ks_of3 {p i m n : Addr} {H H' : Hp} (k3 : Kp [p, i, m] H H') : Ks [p, i, m, n] H H' := fun a o e q => k3 a o e (fun z => absurd (by
  simp only [List.mem_cons, List.not_mem_nil, or_false] at z ⊢
  rcases z with z | z | z
  · exact .inl z
  · exact .inr (.inl z)
  · exact .inr (.inr (.inl z))) q)
theorem rowsOf_at {q : Int} {d : Lz.P} {c : Nat} {y : Str} {u : V} (hok : d.ok) (hy : d.own[c]? = some y) (f2 : ((ipl (q + 1) d.inn).map V.int)[c]? = some u) : ∃ z : Int, u = .int z ∧ (rowsOf q d)[c]? = some (y, (("row" : Str), z)) := by
  rw [List.getElem?_map] at f2
  obtain ⟨z, hz, rfl⟩ := Option.map_eq_some_iff.mp f2
  refine ⟨z, rfl, ?_⟩
  unfold rowsOf
  rw [List.getElem?_zip_eq_some]
  refine ⟨hy, ?_⟩
  rw [List.getElem?_map, hz]
  rfl
def spAddBodyX (K : PySem.W.Frag) (C : Addr) : Sp := fun vs H Q _ => ∃ (r p i m n b w nt : Addr) (v : V) (S : List Addr) (ps : List (Lz.P × List Int)) (nm : List (Int × Nv)) (bd wt : List (Str × Int)) (ns : List Str) (t : Lz.P) (F : List Str), vs = [.ref r, .ref nt, v] ∧ SpE K C S H r p i m n b w ps nm bd wt ∧ ps.length ≤ 540 ∧ SqT K H nt (ns.map V.str) ∧ ns.length ≤ 4 ∧ Dp K H v t.data ∧ BodyOk t ∧ t.fit F ns ∧ (ns ++ t.rown).Nodup ∧ (∀ x, x ∈ S → ∃ o, H x = some o) ∧ (∀ e, e ∈ nm → e.1 < (ps.length : Int)) ∧
  ∀ H', Ks [p, i, m, n] H H' → SpE K C S H' r p i m n b w (ps ++ psOf (ps.length : Int) t.all) (nm ++ nmE (lk (Lf ns (ps.length : Int) t.all)) (ps.length : Int) t.all) bd wt → Q .non H'
section
variable {P : Program} {w : World} {K : PySem.W.Frag} {mg : Str → Option Value} {base : Heap} {f C : Addr} {fd : FuncData}
abbrev sSAddBody : Stmt := inClass (topS 11) 1
theorem scSAddBody : FnScope ["self", "names", "body", "first", "known", "place", "part", "inner", "x", "row", "k"] ["self", "names", "body"] (defScope sSAddBody) := ⟨rfl, rfl, rfl, by decide +kernel, rfl, by decide +kernel, by decide +kernel⟩
theorem ok_addBX {j : Nat} (hj : 2 ≤ j) (F : Fun K "_add_body" "Spots._add_body" sSAddBody f fd) (R : SC K C) (B : Bt mg) (menum : mg "enumerate" = none) (mzip : mg "zip" = none) (CAllIn : C8.Cal P w K mg base 2 "all_in" (spAll K 12) []) (CRowNames : C8.Cal P w K mg base 1 "row_names" (spRowNames K) []) (CInnerPlaces : C8.Cal P w K mg base j "inner_places" (spPlacesX K) []) : FnOk P w K mg base CX0 (j + 1) f fd ["self", "names", "body"] (spAddBodyX K C) := by
  have ml := B.len
  have mrange := B.range
  refine F.ok scSAddBody (fun vs H Q E h => ?_) (fun cdv A outer s H vs Q E hr h => ?_)
  · obtain ⟨r, p, i, m, n, b, w, nt, v, S, ps, nm, bd, wt, ns, t, Fs, rfl, _⟩ := h
    rfl
  have hu := hu_of hr
  obtain ⟨r, p, i, m, n, b, w, nt, v, S, ps, nm, bd, wt, ns, t, Fs, rfl, S0, hts, hnt, hns, hd, hb, hfit, hnod, hSx, hnmlt, q⟩ := h
  refine ⟨_, (pss_cons (ps_set (i := 3) scSAddBody.nd rfl (.inl rfl) (pe_callB (call_lenK (K := K) rfl) (by rfl) ml PySem.boot_len (pa_cons (pe_fld (pv 0) rfl) pa_nil)))
    (pss_cons (DcS.ps_setDc (i := 4) (own := [("k", 10), ("x", 8)]) rfl scSAddBody.nd rfl rfl (DcS.sw_dict rfl rfl rfl (by decide +kernel)) (EnS.pi_enT (K := K) rfl (by rfl) menum (pa_cons (pv 1) pa_nil)) (blkOk_by (N := ["self", "names", "body", "first", "known", "place", "part", "inner", "x", "row", "k"]) (sc := defScope sSAddBody) (by decide +kernel)) (fun _ _ _ _ _ => (pg_tupK (K := K) (n := 2) rfl rfl (pgs_cons (pg_name (i := 10) scSAddBody.nd rfl (.inl rfl)) (pgs_cons (pg_name (i := 8) scSAddBody.nd rfl (.inl rfl)) pgs_nil)))) (fun _ _ _ _ _ => pts_nil) (fun _ _ _ _ _ => (pv 8)) (fun _ _ _ _ _ => (pe_tup (pa_cons pe_str (pa_cons (pv 10) pa_nil)))))
    (pss_cons (ps_for PassesOwn.never rfl (EnS.pi_from (K := K) rfl (by rfl) menum (pa_cons (C8.pe_c CAllIn hr (by first | decide | omega) (by rfl) (pa_cons (pv 2) pa_nil)) pa_nil) (pk_cons (pv 3) pk_nil)) (pg_tupK (K := K) (n := 2) rfl rfl (pgs_cons (pg_name (i := 5) scSAddBody.nd rfl (.inl rfl)) (pgs_cons (pg_name (i := 6) scSAddBody.nd rfl (.inl rfl)) pgs_nil))) (pss_cons (ps_set (i := 7) scSAddBody.nd rfl (.inl rfl) (C8.pe_c CInnerPlaces hr (by first | decide | omega) (by rfl) (pa_cons (pv 5) (pa_cons (pv 6) pa_nil))))
    (pss_cons (ps_expr (pe_bmK (K := K) rfl PySem.F.plainAttrs_list PySem.F.slot_list_append PySem.F.type_list_append mt_append (pe_fld (pv 0) rfl) (pa_cons (pv 6) pa_nil)))
    (pss_cons (ps_expr (pe_bmK (K := K) rfl PySem.F.plainAttrs_list PySem.F.slot_list_append PySem.F.type_list_append mt_append (pe_fld (pv 0) rfl) (pa_cons (pv 7) pa_nil)))
    (pss_cons (ps_expr (pe_bmK (K := K) rfl PySem.F.plainAttrs_list PySem.F.slot_list_append PySem.F.type_list_append mt_append (pe_fld (pv 0) rfl) (pa_cons (pe_callB (call_lenK (K := K) rfl) (by rfl) ml PySem.boot_len (pa_cons (pv 1) pa_nil)) pa_nil)))
    (pss_one (ps_for PassesOwn.never rfl (StZ.pi_zipLK (K := K) rfl (by rfl) mzip (pa_cons (C8.pe_c CRowNames hr (by first | decide | omega) (by rfl) (pa_cons (pv 6) pa_nil)) (pa_cons (pv 7) pa_nil))) (pg_tupK (K := K) (n := 2) rfl rfl (pgs_cons (pg_name (i := 8) scSAddBody.nd rfl (.inl rfl)) (pgs_cons (pg_name (i := 9) scSAddBody.nd rfl (.inl rfl)) pgs_nil))) (pss_one (ps_dput hu (pv 4) (pv 8) (pe_tup (pa_cons pe_str (pa_cons (pv 9) pa_nil))) rfl)))))))))
    (pss_one (ps_for PassesOwn.never rfl (pi_range2 (by rfl) mrange (pa_cons (pv 3) (pa_cons (pe_callB (call_lenK (K := K) rfl) (by rfl) ml PySem.boot_len (pa_cons (pe_fld (pv 0) rfl) pa_nil)) pa_nil))) (pg_name (i := 5) scSAddBody.nd rfl (.inl rfl)) (pss_one (ps_if (pt_cmpR op_eq (pe_ix (ix_tupK (K := K) rfl) (pe_ix (ix_listK (K := K) rfl) (pe_fld (pv 0) rfl) (pv 5) (fun _ _ => rfl)) pe_int (fun _ _ => rfl)) pe_str (nomark _)) (pss_one (ps_dput hu (pe_fld (pv 0) rfl) (pv 5) (pe_dget hu (pv 4) (pe_ix (ix_tupK (K := K) rfl) (pe_ix (ix_listK (K := K) rfl) (pe_fld (pv 0) rfl) (pv 5) (fun _ _ => rfl)) pe_int (fun _ _ => rfl)) (fun _ _ => rfl)) rfl)) pss_nil))))))), ?_⟩
  have allok : ∀ d, d ∈ t.all → d.ok := fun d hd => (all_ok t hb.ok d hd).1
  have hLn : ((Lf ns (ps.length : Int) t.all).map (·.1)).Nodup := by rw [rows_names allok, all_own]; exact hnod
  have hnod2 : (ns ++ t.all.flatMap Lz.P.own).Nodup := by rw [all_own]; exact hnod
  obtain ⟨⟨dx, ho⟩, ⟨xs0, hp0, hx0⟩, _⟩ := id S0
  have hxl0 : xs0.length = ps.length := by rw [hx0.length, datas_len, List.length_map]
  -- first
  refine ⟨_, rfl, r, C, dx, _, _, rfl, ho, R.cl, R.n1, sf_p _ _ _ _ _ _, p, _, rfl, .inl (SqL.of hp0), ?_⟩
  rw [hxl0]
  -- known
  refine ⟨_, rfl, nt, _, rfl, hnt, fun D hD => ?_⟩
  refine DcS.dc_it (EnS.walk_fromT (K := K) (a := nt) (k := 0) (xs := ns.map V.str)) (fun i H' => Kp [] H H' ∧ ∃ kk, H' D = some (.dK kk) ∧ kk.length ≤ i ∧ Kn K H' kk (thg 0 (ns.take i)))
    ⟨Kp.new hD, [], upd_same, Nat.le_refl _, fun x m => by cases m⟩ (fun i H' _ ⟨k, _⟩ => k.sqT hnt) ?_ ?_
  · rintro i x H1 H2 hi ⟨k1, kk, hK, hkl, hkk⟩ ⟨T, a1, a2, rfl, hT, rfl, e1, e2⟩
    obtain rfl := Option.some.inj e1
    have e2 : (ns.map V.str)[i]? = some a2 := e2
    rw [List.getElem?_map] at e2
    obtain ⟨y, hy, rfl⟩ : ∃ y, ns[i]? = some y ∧ a2 = .str y := by
      cases e : ns[i]? with
      | none => rw [e] at e2; cases e2
      | some y => rw [e] at e2; exact ⟨y, rfl, (Option.some.inj e2).symm⟩
    have kT : Kp [] H1 (upd H1 T (.tup [.int (0 + (i : Nat)), .str y])) := Kp.new hT
    have hT2 : (upd H1 T (.tup [.int (0 + (i : Nat)), .str y])) T = some (.tup [.int (0 + (i : Nat)), .str y]) := upd_same
    have hK2 := kT _ _ hK (fun m => nomatch m)
    have k2 := k1.trans kT
    have hkk2 := hkk.mono (fun {a xs} h => kT.sqT h)
    generalize upd H1 T (.tup [.int (0 + (i : Nat)), .str y]) = H2 at hT2 hK2 k2 hkk2 ⊢
    refine ⟨T, _, rfl, SqT.of hT2, rfl, _, _, rfl, _, _, rfl, rfl, rfl, ?_⟩
    refine ⟨_, rfl, _, rfl, (by show 2 ≤ sizeLine; decide), fun T2 hT3 => ?_⟩
    have kU : Kp [] H2 (upd H2 T2 (.tup [.str "thing", .int (0 + (i : Nat))])) := Kp.new hT3
    have hU : SqT K (upd H2 T2 (.tup [.str "thing", .int (0 + (i : Nat))])) T2 [.str "thing", .int (0 + (i : Nat))] := SqT.of upd_same
    have hK3 := kU _ _ hK2 (fun m => nomatch m)
    have hkk3 := hkk2.mono (fun {a xs} h => kU.sqT h)
    have k3 := k2.trans kU
    refine ⟨kk, Sum.inr y, rfl, hK3, small1000 (by have := (List.getElem?_eq_some_iff.mp hy).1; omega), ?_⟩
    generalize upd H2 T2 (.tup [.str "thing", .int (0 + (i : Nat))]) = H3 at hU hK3 hkk3 k3 ⊢
    have hnn : ns.Nodup := (List.nodup_append.mp hnod).1
    have e3 : thg 0 (ns.take (i + 1)) = thg 0 (ns.take i) ++ [(y, (("thing" : Str), (0 + (i : Nat) : Int)))] := by
      have hil := (List.getElem?_eq_some_iff.mp hy).1
      rw [List.take_add_one, hy]
      show thg 0 (ns.take i ++ [y]) = _
      rw [thg_append, List.length_take, Nat.min_eq_left (by omega)]
      rfl
    refine ⟨k3.mut hD, _, upd_same, by have := length_putK kk (Sum.inr y) (V.ref T2); omega, ?_⟩
    rw [e3]
    have kD : Kd D H3 (upd H3 D (.dK (putK kk (Sum.inr y) (.ref T2)))) := Kd.at _ _ _
    refine (hkk3.put (v := (("thing" : Str), (0 + (i : Nat) : Int))) hU (fun e me he => ?_)).mono (fun {a xs} h => kD.ks.sqT (noT_d hK3) h)
    have m1 : e.1 ∈ ns.take i := by
      have : e.1 ∈ (thg 0 (ns.take i)).map (·.1) := List.mem_map.mpr ⟨e, me, rfl⟩
      rwa [thg_fst] at this
    have hs : (ns.take i ++ [y]).Nodup := by
      have : ns.take (i + 1) = ns.take i ++ [y] := by rw [List.take_add_one, hy]; rfl
      rw [← this]
      exact hnn.sublist (List.take_sublist _ _)
    exact (List.nodup_append.mp hs).2.2 _ m1 y List.mem_cons_self he
  rintro H1 ⟨k1, kk, hK, hkl, hkk⟩
  rw [List.length_map] at hkl hkk
  rw [List.take_length] at hkk
  have S1 := S0.keep k1
  have hnt1 := k1.sqT hnt
  have hd1 := Dp.keep k1 _ _ (data_fz _) hd
  -- the parts
  refine ⟨_, rfl, v, t, rfl, hd1, hb.ok, by have := hb.many; omega, hb.deep, fun l xs H2 k2 hl0 hl hx => ?_⟩
  have k02 := k1.trans k2
  have S2 := S1.keep k2
  have hnt2 := k2.sqT hnt1
  have hK2 := k2 _ _ hK (fun m => nomatch m)
  have hkk2 := hkk.mono (fun {a xs} h => k2.sqT h)
  have hal := all_len t
  have hmy := hb.many
  have hxl : xs.length = t.all.length := by rw [hx.length, datas_len]
  have nl : ¬ l ∈ [p, i, m] := fun q => by
    obtain ⟨_, ⟨_, hp1, _⟩, ⟨_, hi1, _⟩, ⟨_, hm1, _⟩, _⟩ := id S1
    simp only [List.mem_cons, List.not_mem_nil, or_false] at q
    rcases q with rfl | rfl | rfl
    · rw [hp1] at hl0; cases hl0
    · rw [hi1] at hl0; cases hl0
    · rw [hm1] at hl0; cases hl0
  have nlD : l ≠ D := fun e => by rw [e, hK] at hl0; cases hl0
  have nDS : ¬ D ∈ [p, i, m] := fun q => by
    obtain ⟨_, ⟨_, hp1, _⟩, ⟨_, hi1, _⟩, ⟨_, hm1, _⟩, _⟩ := id S0
    simp only [List.mem_cons, List.not_mem_nil, or_false] at q
    rcases q with rfl | rfl | rfl
    · rw [hp1] at hD; cases hD
    · rw [hi1] at hD; cases hD
    · rw [hm1] at hD; cases hD
  have Spim : ∀ x, x ∈ S → ¬ x ∈ [p, i, m] := fun x mx q => by
    refine S0.av x ?_ mx
    simp only [List.mem_cons, List.not_mem_nil, or_false] at q ⊢
    rcases q with q | q | q
    · exact .inr (.inl q)
    · exact .inr (.inr (.inl q))
    · exact .inr (.inr (.inr (.inl q)))
  refine ⟨_, rfl, l, xs, (ps.length : Int), rfl, rfl, SqL.of hl, by omega, by omega, for_it (EnS.walk_from (K := K) (a := l) (k := (ps.length : Int)) (xs := xs)) (fun j σ H' => ∃ (v5 v6 v7 v8 v9 : Option V) (kk : List (Key × V)), σ = [some (.ref r), some (.ref nt), some v, some (.int (ps.length : Nat)), some (.ref D), v5, v6, v7, v8, v9, none] ∧ Kp [p, i, m] H H' ∧
      SpE K C S H' r p i m n b w (ps ++ psOf (ps.length : Int) (t.all.take j)) nm bd wt ∧ H' l = some (.lst xs) ∧ DpAll K H' xs (Lz.P.datas t.all) ∧ H' D = some (.dK kk) ∧ kk.length ≤ 4 + 4 * j ∧ Kn K H' kk (Lf ns (ps.length : Int) (t.all.take j)))
    ⟨none, none, none, none, none, kk, rfl, k02.mono (fun _ m => nomatch m), by rw [List.take_zero]; show SpE K C S H2 r p i m n b w (ps ++ []) nm bd wt; rw [List.append_nil]; exact S2, hl, hx, hK2, by omega, by rw [List.take_zero]; unfold Lf; show Kn K H2 kk (thg 0 ns ++ []); rw [List.append_nil]; exact hkk2⟩ (fun j σ H' _ ⟨_, _, _, _, _, _, _, _, _, h, _⟩ => SqL.of h) ?_ ?_⟩
  · rintro j x σ H3 H4 hj ⟨v5, v6, v7, v8, v9, kk, rfl, k3, S3, hl3, hx3, hK3, hkl3, hkk3⟩ ⟨T, a1, a2, rfl, hT, rfl, e1, e2⟩
    obtain rfl := Option.some.inj e1
    obtain ⟨d, had, hdd⟩ := at_inn hx3 (show xs[j]? = some a2 from e2)
    have hdm := List.mem_of_getElem? had
    have kT : Kp [p, i, m] H3 (upd H3 T (.tup [.int ((ps.length : Int) + (j : Nat)), a2])) := Kp.new hT
    have kT0 : Kp [] H3 (upd H3 T (.tup [.int ((ps.length : Int) + (j : Nat)), a2])) := Kp.new hT
    have hT4 : (upd H3 T (.tup [.int ((ps.length : Int) + (j : Nat)), a2])) T = some (.tup [.int ((ps.length : Int) + (j : Nat)), a2]) := upd_same
    have S4 := S3.keep kT0
    have hl4 := kT0.lst hl3 (fun m => nomatch m)
    have hx4 := Dp.keepAll kT0 _ _ (datas_fz _) hx3
    have hd4 := Dp.keep kT0 _ _ (data_fz _) hdd
    have hK4 := kT0 _ _ hK3 (fun m => nomatch m)
    have hkk4 := hkk3.mono (fun {a xs} h => kT0.sqT h)
    have k4 := k3.trans kT
    generalize upd H3 T (.tup [.int ((ps.length : Int) + (j : Nat)), a2]) = H4 at hT4 S4 hl4 hx4 hd4 hK4 hkk4 k4 ⊢
    refine ⟨T, _, rfl, SqT.of hT4, rfl, _, _, rfl, _, _, rfl, rfl, ?_⟩
    obtain ⟨dok, ddp⟩ := all_ok t hb.ok d hdm
    have dsm := all_small t d hdm
    have dow := all_own4 t ns hfit d hdm
    have hdp := hb.deep
    have hjl : j < t.all.length := (List.getElem?_eq_some_iff.mp had).1
    refine ⟨_, rfl, _, rfl, _, a2, d, rfl, hd4, dok, by omega, by omega, fun l2 H5 k5 hl20 hl2 => ?_⟩
    have S5 := S4.keep k5
    have hl5 := k5.lst hl4 (fun m => nomatch m)
    have hx5 := Dp.keepAll k5 _ _ (datas_fz _) hx4
    have hd5 := Dp.keep k5 _ _ (data_fz _) hd4
    have hK5 := k5 _ _ hK4 (fun m => nomatch m)
    have hkk5 := hkk4.mono (fun {a xs} h => k5.sqT h)
    have k5' := k4.trans (k5.mono (T := [p, i, m]) (fun _ m => nomatch m))
    obtain ⟨⟨dx5, ho5⟩, ⟨xs5, hp5, hx5'⟩, ⟨ys5, hi5, ly5⟩, ⟨zs5, hm5, lz5⟩, _, _, _, n1, n2, n3, _⟩ := id S5
    have llen : (ps ++ psOf (ps.length : Int) (t.all.take j)).length ≤ 600 := by rw [List.length_append, psOf_len, List.length_take]; omega
    have lx5 : xs5.length ≤ 600 := by rw [hx5'.length, datas_len, List.length_map]; exact llen
    have ly5' : ys5.length ≤ 600 := by rw [ly5.len, List.length_map]; exact llen
    have nrp : r ≠ p := ne_of ho5 hp5 (fun e => nomatch e)
    have nri : r ≠ i := ne_of ho5 hi5 (fun e => nomatch e)
    have nl2 : ¬ l2 ∈ [p, i, m] := fun q => by
      obtain ⟨_, ⟨_, hp1, _⟩, ⟨_, hi1, _⟩, ⟨_, hm1, _⟩, _⟩ := id S4
      simp only [List.mem_cons, List.not_mem_nil, or_false] at q
      rcases q with rfl | rfl | rfl
      · rw [hp1] at hl20; cases hl20
      · rw [hi1] at hl20; cases hl20
      · rw [hm1] at hl20; cases hl20
    have nl2S : ¬ l2 ∈ p :: i :: m :: S := fun q => by
      simp only [List.mem_cons] at q
      rcases q with q | q | q | q
      · exact nl2 (by simp [q])
      · exact nl2 (by simp [q])
      · exact nl2 (by simp [q])
      · obtain ⟨o, hq⟩ := hSx l2 q
        have := k4 _ _ hq (fun z => absurd z (Spim l2 q))
        rw [hl20] at this
        cases this
    have S8 := S5.more (y := .ref l2) (z := .int (ns.length : Nat)) (l := ipl ((ps.length : Int) + (j : Nat) + 1) d.inn) hp5 hi5 hm5 hd5 (.lst hl2 nl2S (intsS _))
    have k58 : Kp [p, i, m] H5 (upd (upd (upd H5 p (.lst (xs5 ++ [a2]))) i (.lst (ys5 ++ [.ref l2]))) m (.lst (zs5 ++ [.int (ns.length : Nat)]))) := by
      refine (Kp.put hp5 (by simp)).trans ((Kp.put (xs := ys5) ?_ (by simp)).trans (Kp.put (xs := zs5) ?_ (by simp)))
      · rw [upd_ne n1.symm]; exact hi5
      · rw [upd_ne n3.symm, upd_ne n2.symm]; exact hm5
    refine ⟨_, rfl, r, C, dx5, _, _, rfl, ho5, R.cl, R.n1, sf_p _ _ _ _ _ _, .inl ⟨rfl, _, SqL.of hp5⟩, _, rfl, p, _, _, rfl, rfl, hp5, small1000 (by omega), ?_⟩
    have hi6 : (upd H5 p (.lst (xs5 ++ [a2]))) i = some (.lst ys5) := by rw [upd_ne n1.symm]; exact hi5
    refine ⟨_, rfl, r, C, dx5, _, _, rfl, (by rw [upd_ne nrp]; exact ho5), R.cl, R.n2, sf_i _ _ _ _ _ _, .inl ⟨rfl, _, SqL.of hi6⟩, _, rfl, i, _, _, rfl, rfl, hi6, small1000 (by omega), ?_⟩
    have hm7 : (upd (upd H5 p (.lst (xs5 ++ [a2]))) i (.lst (ys5 ++ [.ref l2]))) m = some (.lst zs5) := by rw [upd_ne n3.symm, upd_ne n2.symm]; exact hm5
    have hnt7 : SqT K (upd (upd H5 p (.lst (xs5 ++ [a2]))) i (.lst (ys5 ++ [.ref l2]))) nt (ns.map V.str) := by
      have q1 : Kp [p] H5 (upd H5 p (.lst (xs5 ++ [a2]))) := Kp.put hp5 List.mem_cons_self
      have q2 : Kp [i] (upd H5 p (.lst (xs5 ++ [a2]))) (upd (upd H5 p (.lst (xs5 ++ [a2]))) i (.lst (ys5 ++ [.ref l2]))) := Kp.put hi6 List.mem_cons_self
      exact q2.sqT (q1.sqT (k5'.sqT hnt))
    refine ⟨_, rfl, r, C, dx5, _, _, rfl, (by rw [upd_ne nri, upd_ne nrp]; exact ho5), R.cl, R.n3, sf_m _ _ _ _ _ _, .inl ⟨rfl, _, SqL.of hm7⟩, _, rfl, nt, _, rfl, .inr hnt7, m, _, _, rfl, rfl, hm7, small1000 (by omega), ?_⟩
    rw [List.length_map]
    have hl8 := k58.lst hl5 nl
    have hl28 := k58.lst hl2 nl2
    have hx8 := Dp.keepAll k58 _ _ (datas_fz _) hx5
    have hd8 := Dp.keep k58 _ _ (data_fz _) hd5
    have hK8 := k58 _ _ hK5 (fun _ _ e => nomatch e)
    have hkk8 := hkk5.mono (fun {a xs} h => k58.sqT h)
    have k8 := k5'.trans k58
    generalize upd (upd (upd H5 p (.lst (xs5 ++ [a2]))) i (.lst (ys5 ++ [.ref l2]))) m (.lst (zs5 ++ [.int (ns.length : Nat)])) = H8 at S8 hl8 hl28 hx8 hd8 hK8 hkk8 k8 ⊢
    refine ⟨_, rfl, a2, d, rfl, hd8, dok, dow, fun l3 H9 k9 hl30 hl3 => ?_⟩
    have lenj : ((t.all.take j).length : Int) = (j : Int) := by rw [List.length_take, Nat.min_eq_left (by omega)]
    have etk : ps ++ psOf (ps.length : Int) (t.all.take j) ++ [(d, ipl ((ps.length : Int) + (j : Nat) + 1) d.inn)] = ps ++ psOf (ps.length : Int) (t.all.take (j + 1)) := by
      rw [List.take_add_one, had]
      show _ = ps ++ psOf (ps.length : Int) (t.all.take j ++ [d])
      rw [psOf_append, lenj, List.append_assoc]
      rfl
    rw [etk] at S8
    have eLf : Lf ns (ps.length : Int) (t.all.take (j + 1)) = Lf ns (ps.length : Int) (t.all.take j) ++ rowsOf ((ps.length : Int) + (j : Int)) d := by
      unfold Lf
      rw [List.take_add_one, had]
      show thg 0 ns ++ rws (ps.length : Int) (t.all.take j ++ [d]) = _
      rw [rws_append, lenj, List.append_assoc]
      show _ = _ ++ (_ ++ rowsOf ((ps.length : Int) + (j : Int)) d)
      congr 2
      show rowsOf ((ps.length : Int) + (j : Int)) d ++ [] = _
      rw [List.append_nil]
    have hrl : (rowsOf ((ps.length : Int) + (j : Int)) d).length = d.own.length := by
      have := congrArg List.length (rowsOf_fst ((ps.length : Int) + (j : Int)) dok)
      rwa [List.length_map] at this
    have nl3 : ¬ l3 ∈ [p, i, m] := fun q => by
      obtain ⟨_, ⟨_, hp1, _⟩, ⟨_, hi1, _⟩, ⟨_, hm1, _⟩, _⟩ := id S8
      simp only [List.mem_cons, List.not_mem_nil, or_false] at q
      rcases q with rfl | rfl | rfl
      · rw [hp1] at hl30; cases hl30
      · rw [hi1] at hl30; cases hl30
      · rw [hm1] at hl30; cases hl30
    have hoi := ownInn dok
    have hiz := ipl_len ((ps.length : Int) + (j : Nat) + 1) d.inn
    have nodj : (ns ++ (t.all.take j).flatMap Lz.P.own ++ d.own).Nodup := by
      refine hnod2.sublist ?_
      rw [List.append_assoc]
      refine (List.Sublist.refl ns).append ?_
      have e : (t.all.take j).flatMap Lz.P.own ++ d.own = (t.all.take (j + 1)).flatMap Lz.P.own := by
        rw [List.take_add_one, had, List.flatMap_append]
        show _ = _ ++ (d.own ++ [])
        rw [List.append_nil]
      rw [e]
      have e5 := congrArg (List.flatMap Lz.P.own) (List.take_append_drop (j + 1) t.all)
      rw [List.flatMap_append] at e5
      rw [← e5]
      exact List.sublist_append_left _ _
    refine ⟨_, rfl, l3, l2, _, _, rfl, SqL.of hl3, SqL.of (k9.lst hl28 (fun m => nomatch m)), for_it (walk_zip (K := K) (a := l3) (b := l2) (xs := d.own.map V.str) (ys := (ipl ((ps.length : Int) + (j : Nat) + 1) d.inn).map V.int) (n := d.own.length) (by rw [List.length_map, List.length_map, hiz]; omega)) (fun c σ H' => ∃ (v8 v9 : Option V) (kk : List (Key × V)), σ = [some (.ref r), some (.ref nt), some v, some (.int (ps.length : Nat)), some (.ref D), some (.int ((ps.length : Int) + (j : Nat))), some a2, some (.ref l2), v8, v9, none] ∧ Kp [p, i, m] H H' ∧
        SpE K C S H' r p i m n b w (ps ++ psOf (ps.length : Int) (t.all.take (j + 1))) nm bd wt ∧ H' l = some (.lst xs) ∧ DpAll K H' xs (Lz.P.datas t.all) ∧ H' l3 = some (.lst (d.own.map V.str)) ∧ H' l2 = some (.lst ((ipl ((ps.length : Int) + (j : Nat) + 1) d.inn).map V.int)) ∧ H' D = some (.dK kk) ∧ kk.length ≤ 4 + 4 * j + c ∧ Kn K H' kk (Lf ns (ps.length : Int) (t.all.take j) ++ (rowsOf ((ps.length : Int) + (j : Int)) d).take c))
      ⟨_, _, kk, rfl, k8.trans (k9.mono (fun _ m => nomatch m)), S8.keep k9, k9.lst hl8 (fun m => nomatch m), Dp.keepAll k9 _ _ (datas_fz _) hx8, hl3, k9.lst hl28 (fun m => nomatch m), k9 _ _ hK8 (fun m => nomatch m), hkl3, by rw [List.take_zero, List.append_nil]; exact hkk8.mono (fun {a xs} h => k9.sqT h)⟩ (fun c σ H' _ ⟨_, _, _, _, _, _, _, _, g3, g2, _⟩ => ⟨SqL.of g3, SqL.of g2⟩) ?_ ?_⟩
    · rintro c x σ H10 H11 hc ⟨v8, v9, kk, rfl, k10, S10, hl10, hx10, hl310, hl210, hK10, hkl10, hkk10⟩ ⟨T2, x1, x2, rfl, hT2, rfl, f1, f2⟩
      have f1 : (d.own.map V.str)[c]? = some x1 := f1
      have f2 : ((ipl ((ps.length : Int) + (j : Nat) + 1) d.inn).map V.int)[c]? = some x2 := f2
      rw [List.getElem?_map] at f1
      obtain ⟨y, hy, rfl⟩ : ∃ y, d.own[c]? = some y ∧ x1 = .str y := by
        cases e : d.own[c]? with
        | none => rw [e] at f1; cases f1
        | some y => rw [e] at f1; exact ⟨y, rfl, (Option.some.inj f1).symm⟩
      obtain ⟨z, rfl, hrow⟩ := rowsOf_at dok hy f2
      have kT : Kp [] H10 (upd H10 T2 (.tup [.str y, .int z])) := Kp.new hT2
      have hT3 : (upd H10 T2 (.tup [.str y, .int z])) T2 = some (.tup [.str y, .int z]) := upd_same
      have S11 := S10.keep kT
      have hl11 := kT.lst hl10 (fun m => nomatch m)
      have hx11 := Dp.keepAll kT _ _ (datas_fz _) hx10
      have hl311 := kT.lst hl310 (fun m => nomatch m)
      have hl211 := kT.lst hl210 (fun m => nomatch m)
      have hK11 := kT _ _ hK10 (fun m => nomatch m)
      have hkk11 := hkk10.mono (fun {a xs} h => kT.sqT h)
      have k11 := k10.trans (kT.mono (T := [p, i, m]) (fun _ m => nomatch m))
      generalize upd H10 T2 (.tup [.str y, .int z]) = H11 at hT3 S11 hl11 hx11 hl311 hl211 hK11 hkk11 k11 ⊢
      refine ⟨T2, _, rfl, SqT.of hT3, rfl, _, _, rfl, _, _, rfl, rfl, ?_⟩
      refine ⟨_, rfl, (by show 2 ≤ sizeLine; decide), fun T4 hT4 => ?_⟩
      have kU : Kp [] H11 (upd H11 T4 (.tup [.str "row", .int z])) := Kp.new hT4
      have hU : SqT K (upd H11 T4 (.tup [.str "row", .int z])) T4 [.str "row", .int z] := SqT.of upd_same
      have S12 := S11.keep kU
      have hl12 := kU.lst hl11 (fun m => nomatch m)
      have hx12 := Dp.keepAll kU _ _ (datas_fz _) hx11
      have hl312 := kU.lst hl311 (fun m => nomatch m)
      have hl212 := kU.lst hl211 (fun m => nomatch m)
      have hK12 := kU _ _ hK11 (fun m => nomatch m)
      have hkk12 := hkk11.mono (fun {a xs} h => kU.sqT h)
      have k12 := k11.trans (kU.mono (T := [p, i, m]) (fun _ m => nomatch m))
      generalize upd H11 T4 (.tup [.str "row", .int z]) = H12 at hU S12 hl12 hx12 hl312 hl212 hK12 hkk12 k12 ⊢
      refine ⟨_, rfl, _, rfl, D, _, rfl, DPut.k (k := Sum.inr y) hK12 (small1000 (by omega)), ?_⟩
      have kD : Kd D H12 (upd H12 D (.dK (putK kk (Sum.inr y) (.ref T4)))) := Kd.at _ _ _
      refine ⟨_, _, _, rfl, k12.mut hD, S12.keepD kD hK12 ?_, kD.lst hl12 hK12, kD.all hK12 (datas_fz _) hx12, kD.lst hl312 hK12, kD.lst hl212 hK12, upd_same, by have := length_putK kk (Sum.inr y) (V.ref T4); omega, ?_⟩
      · obtain ⟨_, _, _, _, ⟨_, q4, _⟩, ⟨_, q5, _⟩, ⟨_, q6, _⟩, _⟩ := id S0
        refine ⟨fun e => ?_, fun e => ?_, fun e => ?_⟩
        · rw [e, q4] at hD; cases hD
        · rw [e, q5] at hD; cases hD
        · rw [e, q6] at hD; cases hD
      · rw [List.take_add_one, hrow, ← List.append_assoc]
        refine (hkk12.put (v := (("row" : Str), z)) hU (fun e me he => ?_)).mono (fun {a xs} h => kD.ks.sqT (noT_d hK12) h)
        have m1 : e.1 ∈ ns ++ (t.all.take j).flatMap Lz.P.own ++ d.own.take c := by
          have h1 : e.1 ∈ (Lf ns (ps.length : Int) (t.all.take j) ++ (rowsOf ((ps.length : Int) + (j : Int)) d).take c).map (·.1) := List.mem_map.mpr ⟨e, me, rfl⟩
          rw [List.map_append, rows_names (fun x mx => allok x (List.mem_of_mem_take mx)), List.map_take, rowsOf_fst _ dok] at h1
          exact h1
        have hs : (ns ++ (t.all.take j).flatMap Lz.P.own ++ d.own.take c ++ [y]).Nodup := by
          have e4 : d.own.take c ++ [y] = d.own.take (c + 1) := by rw [List.take_add_one, hy]; rfl
          rw [List.append_assoc _ (d.own.take c), e4]
          exact nodj.sublist ((List.Sublist.refl _).append (List.take_sublist _ _))
        exact (List.nodup_append.mp hs).2.2 _ m1 y List.mem_cons_self he
    · rintro σ H10 ⟨v8, v9, kk, rfl, k10, S10, hl10, hx10, hl310, hl210, hK10, hkl10, hkk10⟩
      refine ⟨_, _, _, _, _, kk, rfl, k10, S10, hl10, hx10, hK10, by omega, ?_⟩
      rw [← hrl, List.take_length, ← eLf] at hkk10
      exact hkk10
  · rintro σ H3 ⟨v5, v6, v7, v8, v9, kk, rfl, k3, S3, hl3, hx3, hK3, hkl3, hkk3⟩
    rw [hxl, List.take_length] at S3 hkk3
    obtain ⟨_, _, _, _, ⟨kv0, hn0, ln0, gn0⟩, _⟩ := id S0
    have hn3 := k3 _ _ hn0 (fun _ _ e => nomatch e)
    obtain ⟨⟨dx3, ho3⟩, ⟨xs3, hp3, hx3'⟩, _⟩ := id S3
    have lx3 : xs3.length = ps.length + t.all.length := by rw [hx3'.length, datas_len, List.length_map, List.length_append, psOf_len]
    have nDn : D ≠ n := fun e => by rw [e, hn0] at hD; cases hD
    have ks3 : Ks [p, i, m, n] H H3 := ks_of3 k3
    refine ⟨_, rfl, _, rfl, r, C, dx3, _, _, rfl, ho3, R.cl, R.n1, sf_p _ _ _ _ _ _, p, _, rfl, .inl (SqL.of hp3), _, _, rfl, ⟨by omega, by omega, by omega, by omega⟩, ?_⟩
    have en : (((xs3.length : Nat) : Int) - (ps.length : Int)).toNat = t.all.length := by omega
    rw [en]
    have gn3 : ∀ e, e ∈ nm → ∃ a, valV kv0 (Sum.inl e.1) = some (.ref a) ∧ SqT K H3 a [.str e.2.1, .int e.2.2] := fun e me => by
      obtain ⟨a, q1, q2⟩ := gn0 e me
      exact ⟨a, q1, k3.sqT q2⟩
    refine for_range (lo := (ps.length : Int)) (n := t.all.length) (fun c σ H' => ∃ (v5 v6 v7 v8 v9 : Option V) (kv : List (Key × V)), σ = [some (.ref r), some (.ref nt), some v, some (.int (ps.length : Nat)), some (.ref D), v5, v6, v7, v8, v9, none] ∧ Ks [p, i, m, n] H H' ∧ SpE K C S H' r p i m n b w (ps ++ psOf (ps.length : Int) t.all) [] bd wt ∧ H' D = some (.dK kk) ∧ Kn K H' kk (Lf ns (ps.length : Int) t.all) ∧ H' n = some (.dK kv) ∧ kv.length ≤ ps.length + c ∧ ∀ e, e ∈ nm ++ nmE (lk (Lf ns (ps.length : Int) t.all)) (ps.length : Int) (t.all.take c) → ∃ a, valV kv (Sum.inl e.1) = some (.ref a) ∧ SqT K H' a [.str e.2.1, .int e.2.2])
      ⟨_, _, _, _, _, kv0, rfl, ks3, ?_, hK3, hkk3, hn3, by omega, fun e me => gn3 e (by rw [List.take_zero] at me; simpa [nmE] using me)⟩ ?_ ?_
    · obtain ⟨a0, a1, a2, a3, ⟨kv, b1, b2, b3⟩, a5, a6, a7, a8, a9, a10, a11, a12, a13⟩ := S3
      exact ⟨a0, a1, a2, a3, ⟨kv, b1, b2, fun e m => nomatch m⟩, a5, a6, a7, a8, a9, a10, a11, a12, a13⟩
    · rintro c σ H4 hc ⟨v5, v6, v7, v8, v9, kv, rfl, k4, S4, hK4, hkk4, hn4, ln4, gn4⟩
      obtain ⟨⟨dx4, ho4⟩, ⟨xs4, hp4, hx4⟩, _⟩ := id S4
      have had := List.getElem?_eq_getElem hc
      have hdm := List.getElem_mem hc
      generalize t.all[c] = d at had hdm
      obtain ⟨u4, hu4, hd4⟩ := hx4.get (i := ps.length + c) (d := d.data) (by rw [datas_map, List.map_append, psOf_fst, List.map_append, List.getElem?_append_right (by rw [List.length_map, List.length_map]; omega), List.length_map, List.length_map, show ps.length + c - ps.length = c by omega, List.getElem?_map, had]; rfl)
      obtain ⟨at4, us4, rfl, ht4⟩ : ∃ a us, u4 = .ref a ∧ SqT K H4 a (.str d.hd :: us) := by
        obtain ⟨a, us, e, h1, _⟩ := hd_at hd4
        exact ⟨a, us, e, h1⟩
      have lenc : ((t.all.take c).length : Int) = (c : Int) := by rw [List.length_take, Nat.min_eq_left (by omega)]
      have enm : nmE (lk (Lf ns (ps.length : Int) t.all)) (ps.length : Int) (t.all.take (c + 1)) = nmE (lk (Lf ns (ps.length : Int) t.all)) (ps.length : Int) (t.all.take c) ++ nm1 ((ps.length : Int) + (c : Int)) (nmd (lk (Lf ns (ps.length : Int) t.all)) d) := by
        rw [List.take_add_one, had]
        show nmE _ _ (t.all.take c ++ [d]) = _
        rw [nmE_append, lenc]
        show _ ++ (_ ++ []) = _
        rw [List.append_nil]
      refine ⟨_, rfl, r, C, dx4, _, _, rfl, ho4, R.cl, R.n1, sf_p _ _ _ _ _ _, _, rfl, p, _, _, _, rfl, rfl, SqL.of hp4, at_of (j := ps.length + c) (by omega) hu4, at4, _, _, _, rfl, rfl, ht4, at_of (j := 0) rfl rfl, rfl, _, rfl, ?_⟩
      refine ite2 (fun cc => ?_) (fun cc => ⟨_, _, _, _, _, kv, rfl, k4, S4, hK4, hkk4, hn4, by omega, fun e me => ?_⟩)
      · have hdn : d.hd = "name" := V.str.inj (of_decide_eq_true cc)
        obtain ⟨dok, _⟩ := all_ok t hb.ok d hdm
        obtain ⟨x, rfl⟩ : ∃ x, d = .nam x := by
          cases d with
          | num i => exact absurd hdn (show ¬ ("number" : Str) = "name" by decide +kernel)
          | nam x => exact ⟨x, rfl⟩
          | fn x => exact absurd hdn (show ¬ ("fun" : Str) = "name" by decide +kernel)
          | op k as => exact absurd hdn (kind_plain (show (k, as.length) ∈ kinds ∧ Lz.P.oks as from dok).1).2.2.1
          | lt nm as b => exact absurd hdn (show ¬ ("let" : Str) = "name" by decide +kernel)
        obtain ⟨a5, u5, e5, ht5, hu5⟩ := two_at (k := "name") (e := .str x) hd4
        obtain rfl := V.ref.inj e5
        cases hu5
        have mx : x ∈ (Lf ns (ps.length : Int) t.all).map (·.1) := by
          rw [rows_names allok]
          exact List.mem_append.mpr (nam_known t ns hfit x hdm)
        obtain ⟨e0, me0, ee0⟩ := List.mem_map.mp mx
        obtain ⟨y, nv⟩ := e0
        obtain rfl : y = x := ee0
        obtain ⟨an, hu, hsq⟩ := hkk4 _ me0
        have hlk : lk (Lf ns (ps.length : Int) t.all) y = some nv := lk_mem hLn me0
        refine ⟨_, rfl, _, rfl, r, C, dx4, _, _, rfl, ho4, R.cl, R.n1, sf_p _ _ _ _ _ _, _, rfl, p, _, _, _, rfl, rfl, SqL.of hp4, at_of (j := ps.length + c) (by omega) hu4, at4, _, _, _, rfl, rfl, ht5, at_of (j := 1) rfl rfl, D, .ref an, rfl, by have := DGet.k (k := Sum.inr y) hK4; rw [hu] at this; exact this, ?_⟩
        refine ⟨_, rfl, r, C, dx4, _, _, rfl, ho4, R.cl, R.n4, sf_n _ _ _ _ _ _, _, rfl, n, _, rfl, DPut.k (k := Sum.inl ((ps.length : Int) + (c : Nat))) hn4 (small1000 (by omega)), ?_⟩
        have hlp := length_putK kv (Sum.inl ((ps.length : Int) + (c : Nat))) (V.ref an)
        have kD : Kd n H4 (upd H4 n (.dK (putK kv (Sum.inl ((ps.length : Int) + (c : Nat))) (.ref an)))) := Kd.at _ _ _
        refine ⟨_, _, _, _, _, _, rfl, k4.trans (Ks.at (by simp)), S4.named hn4 (by rw [List.length_append, psOf_len]; omega) (fun e m => nomatch m), by rw [upd_ne nDn]; exact hK4, hkk4.mono (fun {a xs} h => kD.ks.sqT (noT_d hn4) h), upd_same, by omega, fun e me => ?_⟩
        rw [enm] at me
        have e5 : nmd (lk (Lf ns (ps.length : Int) t.all)) (.nam y) = some nv := hlk
        rw [e5, ← List.append_assoc] at me
        rcases List.mem_append.mp me with me | me
        · obtain ⟨a, q1, q2⟩ := gn4 e me
          refine ⟨a, ?_, kD.ks.sqT (noT_d hn4) q2⟩
          rw [valV_put, if_neg ?_]
          · exact q1
          · intro q
            have q := Sum.inl.inj q
            rcases List.mem_append.mp me with me | me
            · have := hnmlt e me; omega
            · have := nmE_lt _ _ _ e me
              rw [lenc] at this
              omega
        · rw [List.mem_singleton.mp me]
          exact ⟨an, by rw [valV_put, if_pos rfl], kD.ks.sqT (noT_d hn4) hsq⟩
      · rw [enm] at me
        have hdn : ¬ d.hd = "name" := fun q => by
          rw [decide_eq_true (congrArg V.str q)] at cc
          exact absurd rfl cc
        have e5 : nmd (lk (Lf ns (ps.length : Int) t.all)) d = none := by
          cases d with
          | nam x => exact absurd rfl hdn
          | num i => rfl
          | fn x => rfl
          | op k as => rfl
          | lt nm as b => rfl
        rw [e5] at me
        exact gn4 e (by simpa [nm1] using me)
    · rintro σ H4 ⟨v5, v6, v7, v8, v9, kv, rfl, k4, S4, hK4, hkk4, hn4, ln4, gn4⟩
      rw [List.take_length] at gn4
      refine q H4 k4 ?_
      obtain ⟨a0, a1, a2, a3, ⟨kv', b1, b2, b3⟩, a5, a6, a7, a8, a9, a10, a11, a12, a13⟩ := S4
      obtain rfl := HO.dK.inj (Option.some.inj (b1.symm.trans hn4))
      exact ⟨a0, a1, a2, a3, ⟨kv', b1, b2, gn4⟩, a5, a6, a7, a8, a9, a10, a11, a12, a13⟩
end
end Lz

set_option Elab.async false
set_option linter.all false
set_option maxRecDepth 100000
set_option maxHeartbeats 4000000
namespace Lz
open PySem PySem.Spec PyProof.Rows L2
def spNumber (K : PySem.W.Frag) : Sp := fun vs H Q _ => ∃ (p a : Addr), vs = [.ref p] ∧ PenAt H p a ∧ ∀ (i : Int) (H' : Hp), Kp [p] H H' → PenAt H' p a → i.natAbs < 10 ^ 60 → Q (.int i) H'
def WAt (K : PySem.W.Frag) (H : Hp) (wl : Addr) (W : List (Str × Int)) : Prop := ∃ ws, H wl = some (.lst ws) ∧ DpAll K H ws (W.map wD)
theorem WAt.keep {K : PySem.W.Frag} {S : List Addr} {H H' : Hp} {wl : Addr} {W : List (Str × Int)} (h : WAt K H wl W) (k : Kp S H H') (n : ¬ wl ∈ S) : WAt K H' wl W := by
  obtain ⟨ws, h1, h2⟩ := h
  exact ⟨ws, k.lst h1 n, Dp.keepAll k _ _ (wds_fz W) h2⟩
theorem WAt.dp {K : PySem.W.Frag} {H : Hp} {wl : Addr} {W : List (Str × Int)} (h : WAt K H wl W) : Dp K H (.ref wl) (.list (W.map wD)) := by
  obtain ⟨ws, h1, h2⟩ := h
  exact .lst (SqL.of h1) h2
theorem scope_dp {K : PySem.W.Frag} {H : Hp} {sl : Addr} {sc : List Str} (h : H sl = some (.lst (sc.map V.str))) : Dp K H (.ref sl) (.list (sc.map .str)) := .lst (SqL.of h) (DpAll.strs sc)
theorem nil_dp {K : PySem.W.Frag} {H : Hp} {l : Addr} : Dp K (upd H l (.lst [])) (.ref l) (.list []) := .lst (SqL.of upd_same) .nil
def spLeaf (K : PySem.W.Frag) : Sp := fun vs H Q _ => ∃ (p a wl sl : Addr) (want : Str) (W : List (Str × Int)) (sc : List Str), vs = [.ref p, .ref wl, .ref sl, .str want] ∧ PenAt H p a ∧ WAt K H wl W ∧ H sl = some (.lst (sc.map V.str)) ∧ wl ≠ p ∧ sl ≠ p ∧
  (∀ f, f ∈ W → nmOk f.1) ∧ (∀ x, x ∈ sc → nmOk x) ∧ W.length ≤ 1000 ∧ sc.length ≤ 1000 ∧
  ∀ (v : V) (d : Lz.P) (H' : Hp), Kp [p] H H' → PenAt H' p a → Dp K H' v d.data → (∀ dp n ss, Dr W sc dp n ss n ss [d]) → Q v H'
def spFits (K : PySem.W.Frag) : Sp := fun vs H Q _ => ∃ (r c : Addr) (x : V) (xs : List V) (n m : Int), vs = [.ref r, .int m] ∧ H r = some (.lst (x :: .ref c :: xs)) ∧ H c = some (.lst [.int n]) ∧ (n < m → Q (.bl false) H) ∧ (m ≤ n → Q (.bl true) (upd H c (.lst [.int (n - m)])))
section
variable {P : Program} {w : World} {K : PySem.W.Frag} {mg : Str → Option Value} {base : Heap} {f : Addr} {fd : FuncData}
abbrev sLNumber : Stmt := topS 18
theorem scLNumber : FnScope ["_law_pen_here", "_law_way"] ["_law_pen_here"] (defScope sLNumber) := ⟨rfl, rfl, rfl, by decide +kernel, rfl, by decide +kernel, by decide +kernel⟩
theorem ok_number (F : Fun K "_law_number" "_law_number" sLNumber f fd) (B : Bt mg) (CLDraw : C8.Cal P w K mg base 1 "_law_draw" (spDraw K) []) : FnOk P w K mg base CX0 2 f fd ["_law_pen_here"] (spNumber K) := by
  refine F.ok scLNumber (fun vs H Q E h => ?_) (fun cdv A outer s H vs Q E hr h => ?_)
  · obtain ⟨p, a, rfl, _⟩ := h
    rfl
  obtain ⟨p, a, rfl, hpen, k⟩ := h
  refine ⟨_, (pss_cons (ps_set (i := 1) scLNumber.nd rfl (.inl rfl) (C8.pe_c CLDraw hr (by first | decide | omega) (by rfl) (pa_cons (pv 0) (pa_cons pe_int pa_nil))))
    (pss_cons (ps_if (pt_cmpR op_eq (pv 1) pe_int (nomark _)) (pss_one (ps_ret (pe_op op_add (pe_op op_sub (C8.pe_c CLDraw hr (by first | decide | omega) (by rfl) (pa_cons (pv 0) (pa_cons (pe_op op_sub (pe_op op_mul pe_int (pe_op op_pow pe_int pe_int)) pe_int) pa_nil))) (pe_op op_pow pe_int pe_int)) pe_int))) pss_nil)
    (pss_cons (ps_if (pt_cmpR op_eq (pv 1) pe_int (nomark _)) (pss_one (ps_ret (pe_op op_sub (C8.pe_c CLDraw hr (by first | decide | omega) (by rfl) (pa_cons (pv 0) (pa_cons (pe_op op_mul pe_int (pe_op op_pow pe_int pe_int)) pa_nil))) (pe_op op_pow pe_int pe_int)))) pss_nil)
    (pss_one (ps_ret (pe_op op_sub (C8.pe_c CLDraw hr (by first | decide | omega) (by rfl) (pa_cons (pv 0) (pa_cons pe_int pa_nil))) (pe_ix (ix_listK (K := K) rfl) (pe_lst (pa_cons pe_int (pa_cons pe_int (pa_cons pe_int (pa_cons pe_int (pa_cons pe_int (pa_cons pe_int (pa_cons pe_int pa_nil)))))))) (pv 1) (fun _ _ => rfl)))))))), ?_⟩
  refine ⟨_, rfl, p, a, 9, rfl, hpen, by decide, by decide, fun way H1 k1 pen1 w0 w1 => ?_⟩
  refine ⟨_, rfl, rfl, _, rfl, ?_⟩
  refine ite2 (fun c => ?_) (fun c => ?_)
  · refine ⟨_, rfl, _, _, rfl, rfl, ⟨by decide, by decide, by decide⟩, _, _, rfl, rfl, .inl ⟨by decide, by decide⟩, _, _, rfl, rfl, p, a, _, rfl, pen1, by decide, by decide, fun r H2 k2 pen2 r0 r1 => ?_⟩
    refine ⟨_, _, rfl, rfl, ⟨by decide, by decide, by decide⟩, _, _, rfl, rfl, _, _, rfl, rfl, ?_⟩
    refine k _ H2 (k1.trans k2) pen2 ?_
    have r1' : r < 2 * 10 ^ 60 - 1 := r1
    show (r - 10 ^ 60 + 1 : Int).natAbs < 10 ^ 60
    omega
  refine ⟨_, rfl, rfl, _, rfl, ?_⟩
  refine ite2 (fun c2 => ?_) (fun c2 => ?_)
  · refine ⟨_, rfl, _, _, rfl, rfl, ⟨by decide, by decide, by decide⟩, _, _, rfl, rfl, .inl ⟨by decide, by decide⟩, p, a, _, rfl, pen1, by decide, by decide, fun r H2 k2 pen2 r0 r1 => ?_⟩
    refine ⟨_, _, rfl, rfl, ⟨by decide, by decide, by decide⟩, _, _, rfl, rfl, ?_⟩
    refine k _ H2 (k1.trans k2) pen2 ?_
    have r1' : r < 2 * 10 ^ 31 := r1
    show (r - 10 ^ 31 : Int).natAbs < 10 ^ 60
    omega
  have hw7 : way < 7 := by
    have e1 : ¬ V.int way = V.int 8 := of_decide_eq_false (Bool.eq_false_iff.mpr c)
    have e2 : ¬ V.int way = V.int 7 := of_decide_eq_false (Bool.eq_false_iff.mpr c2)
    have e1' : way ≠ 8 := fun h => e1 (by rw [h])
    have e2' : way ≠ 7 := fun h => e2 (by rw [h])
    omega
  refine ⟨_, rfl, p, a, 9, rfl, pen1, by decide, by decide, fun r H2 k2 pen2 r0 r1 => ?_⟩
  refine ⟨by show 7 ≤ sizeLine; decide, fun l hl => ?_⟩
  obtain ⟨z, hz, hz4⟩ : ∃ z : Int, ([.int 0, .int 0, .int 0, .int 1, .int 2, .int 4, .int 0] : List V)[way.toNat]? = some (.int z) ∧ 0 ≤ z ∧ z ≤ 4 := by
    have h0 : way.toNat < 7 := by omega
    generalize way.toNat = j at h0
    match j, h0 with
    | 0, _ => exact ⟨0, rfl, by omega⟩
    | 1, _ => exact ⟨0, rfl, by omega⟩
    | 2, _ => exact ⟨0, rfl, by omega⟩
    | 3, _ => exact ⟨1, rfl, by omega⟩
    | 4, _ => exact ⟨2, rfl, by omega⟩
    | 5, _ => exact ⟨4, rfl, by omega⟩
    | 6, _ => exact ⟨0, rfl, by omega⟩
  refine ⟨_, rfl, l, _, _, _, rfl, rfl, SqL.of upd_same, at_of (j := way.toNat) (by omega) hz, _, _, rfl, rfl, ?_⟩
  refine k _ _ ((k1.trans k2).trans (Kp.new hl)) (pen2.new hl) ?_
  show (r - z : Int).natAbs < 10 ^ 60
  omega
abbrev sLLeaf : Stmt := topS 19
theorem scLLeaf : FnScope ["_law_pen_here", "_law_world", "_law_scope", "_law_want", "_law_way"] ["_law_pen_here", "_law_world", "_law_scope", "_law_want"] (defScope sLLeaf) := ⟨rfl, rfl, rfl, by decide +kernel, rfl, by decide +kernel, by decide +kernel⟩
theorem ok_leaf (F : Fun K "_law_leaf" "_law_leaf" sLLeaf f fd) (B : Bt mg) (CLDraw : C8.Cal P w K mg base 1 "_law_draw" (spDraw K) []) (CLNumber : C8.Cal P w K mg base 2 "_law_number" (spNumber K) []) : FnOk P w K mg base CX0 3 f fd ["_law_pen_here", "_law_world", "_law_scope", "_law_want"] (spLeaf K) := by
  have ml := B.len
  refine F.ok scLLeaf (fun vs H Q E h => ?_) (fun cdv A outer s H vs Q E hr h => ?_)
  · obtain ⟨p, a, wl, sl, want, W, sc, rfl, _⟩ := h
    rfl
  have hu64 := hr.units
  obtain ⟨p, a, wl, sl, want, W, sc, rfl, hpen, hW, hs, nwp, nsp, nmW, nmS, lW, lS, k⟩ := h
  refine ⟨_, (pss_cons (ps_set (i := 4) scLLeaf.nd rfl (.inl rfl) (C8.pe_c CLDraw hr (by first | decide | omega) (by rfl) (pa_cons (pv 0) (pa_cons pe_int pa_nil))))
    (C8.pss_cut (ps_if (PW.pt (pw_and (pt_cmpR (op_neDK (K := K) rfl hu64) (pv 2) (pe_lst pa_nil) (nomark _)) (pw_and1 (pt_cmpR op_gt (pv 4) pe_int (nomark _))))) (pss_one (ps_ret (pe_tup (pa_cons pe_str (pa_cons (pe_ix (ix_listK (K := K) rfl) (pv 2) (C8.pe_c CLDraw hr (by first | decide | omega) (by rfl) (pa_cons (pv 0) (pa_cons (pe_callB (call_lenK (K := K) rfl) (by rfl) ml PySem.boot_len (pa_cons (pv 2) pa_nil)) pa_nil))) (fun _ _ => rfl)) pa_nil))))) pss_nil)
    (C8.pss_cut (ps_if (PW.pt (pw_and (pt_cmpR (op_neDK (K := K) rfl hu64) (pv 1) (pe_lst pa_nil) (nomark _)) (pw_and (pt_cmpR op_eq (pv 3) pe_str (nomark _)) (pw_and1 (pt_cmpR op_eq (pv 4) pe_int (nomark _)))))) (pss_one (ps_ret (pe_tup (pa_cons pe_str (pa_cons (pe_ix (ix_tupK (K := K) rfl) (pe_ix (ix_listK (K := K) rfl) (pv 1) (C8.pe_c CLDraw hr (by first | decide | omega) (by rfl) (pa_cons (pv 0) (pa_cons (pe_callB (call_lenK (K := K) rfl) (by rfl) ml PySem.boot_len (pa_cons (pv 1) pa_nil)) pa_nil))) (fun _ _ => rfl)) pe_int (fun _ _ => rfl)) pa_nil))))) pss_nil)
    (pss_one (ps_ret (pe_tup (pa_cons pe_str (pa_cons (C8.pe_c CLNumber hr (by first | decide | omega) (by rfl) (pa_cons (pv 0) pa_nil)) pa_nil)))))))), ?_⟩
  refine ⟨_, rfl, p, a, 8, rfl, hpen, by decide, by decide, fun way H1 k1 pen1 w0 w1 => ?_⟩
  have hs1 := k1.lst hs (not1 nsp)
  have hW1 := hW.keep k1 (not1 nwp)
  have back : ∀ (v : V) (d : Lz.P) (H' : Hp), Kp [p] H1 H' → PenAt H' p a → Dp K H' v d.data → (∀ dp n ss, Dr W sc dp n ss n ss [d]) → Q v H' := fun v d H' k2 => k v d H' (k1.trans k2)
  refine ⟨fun σ' H' => σ' = [some (.ref p), some (.ref wl), some (.ref sl), some (.str want), some (.int way)] ∧ Kp [p] H1 H' ∧ PenAt H' p a ∧ WAt K H' wl W, ?_, ?_⟩
  · refine ⟨_, rfl, Nat.zero_le _, fun l hl => ?_⟩
    have k2 : Kp [p] H1 (upd H1 l (.lst [])) := Kp.new hl
    have hs2 := k2.lst hs1 (not1 nsp)
    have hW2 := hW1.keep k2 (not1 nwp)
    have pen2 := pen1.new (o := .lst []) hl
    refine ⟨_, _, scope_dp hs2, nil_dp, strs_shaped nmS, nil_shaped, _, rfl, ?_⟩
    rw [eqv_nil]
    generalize upd H1 l (.lst []) = H2 at k2 hs2 hW2 pen2
    refine ite2 (fun c => ?_) (fun c => ⟨rfl, k2, pen2, hW2⟩)
    have hne : 0 < sc.length := by
      cases sc with
      | nil => cases c
      | cons x r => exact Nat.succ_pos _
    refine ⟨_, rfl, _, _, rfl, rfl, _, rfl, ?_⟩
    refine ite2 (fun c => ?_) (fun c => ⟨rfl, k2, pen2, hW2⟩)
    have hlm : (sc.map V.str).length = sc.length := List.length_map _
    refine ⟨_, rfl, _, rfl, _, rfl, sl, _, rfl, .inl (SqL.of hs2), p, a, _, rfl, pen2, (by rw [hlm]; omega), (by rw [hlm]; omega), fun r H3 k3 pen3 r0 r1 => ?_⟩
    rw [hlm] at r1
    have hr : r.toNat < sc.length := by omega
    have hat : (sc.map V.str)[r.toNat]? = some (.str sc[r.toNat]) := by
      rw [List.getElem?_map, List.getElem?_eq_getElem hr]
      rfl
    refine ⟨sl, _, _, _, rfl, rfl, SqL.of (k3.lst hs2 (not1 nsp)), at_of (j := r.toNat) (by omega) hat, (by show 2 ≤ sizeLine; decide), fun q hq => ?_⟩
    exact back _ (.nam sc[r.toNat]) _ ((k2.trans k3).trans (Kp.new hq)) (pen3.new hq) (Dp.newT hq (.cons (.str _) (.cons (.str _) .nil)) rfl) fun dp n ss => .nam (List.getElem_mem hr) .nil
  · rintro _ H2 ⟨rfl, k2, pen2, hW2⟩
    refine ⟨fun σ' H' => σ' = [some (.ref p), some (.ref wl), some (.ref sl), some (.str want), some (.int way)] ∧ Kp [p] H1 H' ∧ PenAt H' p a, ?_, ?_⟩
    · refine ⟨_, rfl, Nat.zero_le _, fun l hl => ?_⟩
      have k3 := k2.trans (Kp.new (S := [p]) (o := .lst []) hl)
      have hW3 := hW2.keep (Kp.new (S := [p]) (o := .lst []) hl) (not1 nwp)
      have pen3 := pen2.new (o := .lst []) hl
      refine ⟨_, _, hW3.dp, nil_dp, wds_shaped nmW, nil_shaped, _, rfl, ?_⟩
      rw [eqv_nil]
      generalize upd H2 l (.lst []) = H3 at k3 hW3 pen3
      refine ite2 (fun c => ?_) (fun c => ⟨rfl, k3, pen3⟩)
      have hne : 0 < W.length := by
        cases W with
        | nil => cases c
        | cons x r => exact Nat.succ_pos _
      refine ⟨_, rfl, rfl, _, rfl, ?_⟩
      refine ite2 (fun c => ?_) (fun c => ⟨rfl, k3, pen3⟩)
      refine ⟨_, rfl, rfl, _, rfl, ?_⟩
      refine ite2 (fun c => ?_) (fun c => ⟨rfl, k3, pen3⟩)
      obtain ⟨ws, hws, hdp⟩ := id hW3
      have hlw : ws.length = W.length := by rw [hdp.length, List.length_map]
      refine ⟨_, rfl, _, rfl, _, rfl, wl, _, rfl, .inl (SqL.of hws), p, a, _, rfl, pen3, (by rw [hlw]; omega), (by rw [hlw]; omega), fun r H4 k4 pen4 r0 r1 => ?_⟩
      rw [hlw] at r1
      have hr : r.toNat < W.length := by omega
      have hW4 := hW3.keep k4 (not1 nwp)
      obtain ⟨ws, hws, hdp⟩ := id hW4
      obtain ⟨v, hv, hvd⟩ := hdp.get (i := r.toNat) (d := wD W[r.toNat]) (by rw [List.getElem?_map, List.getElem?_eq_getElem hr]; rfl)
      obtain ⟨t, xs, rfl, ht, hxs⟩ := hvd.tup_of
      cases hxs with
      | cons h1 h2 =>
        cases h1
        refine ⟨wl, _, _, _, rfl, rfl, SqL.of hws, at_of (j := r.toNat) (by omega) hv, t, _, _, _, rfl, rfl, ht, at_of (j := 0) rfl rfl, (by show 2 ≤ sizeLine; decide), fun q hq => ?_⟩
        exact back _ (.fn W[r.toNat].1) _ ((k3.trans k4).trans (Kp.new hq)) (pen4.new hq) (Dp.newT hq (.cons (.str _) (.cons (.str _) .nil)) rfl) fun dp n ss => .fn (w := W[r.toNat].2) (List.getElem_mem hr) .nil
    · rintro _ H2 ⟨rfl, k2, pen2⟩
      refine ⟨_, rfl, p, a, rfl, pen2, fun i H3 k3 pen3 hi => ?_⟩
      refine ⟨(by show 2 ≤ sizeLine; decide), fun q hq => ?_⟩
      exact back _ (.num i) _ ((k2.trans k3).trans (Kp.new hq)) (pen3.new hq) (Dp.newT hq (.cons (.str _) (.cons (.int _) .nil)) rfl) fun dp n ss => .num hi .nil
abbrev sLFits : Stmt := topS 20
theorem scLFits : FnScope ["_law_room", "_law_many_here"] ["_law_room", "_law_many_here"] (defScope sLFits) := ⟨rfl, rfl, rfl, by decide +kernel, rfl, by decide +kernel, by decide +kernel⟩
theorem ok_fits (F : Fun K "_law_fits" "_law_fits" sLFits f fd) : FnOk P w K mg base CX0 1 f fd ["_law_room", "_law_many_here"] (spFits K) := by
  refine F.ok scLFits (fun vs H Q E h => ?_) (fun cdv A outer s H vs Q E hr h => ?_)
  · obtain ⟨r, c, x, xs, n, m, rfl, _⟩ := h
    rfl
  obtain ⟨r, c, x, xs, n, m, rfl, hR, hC, k0, k1⟩ := h
  refine ⟨_, (pss_cons (ps_if (pt_cmpR op_lt (pe_ix (ix_listK (K := K) rfl) (pe_ix (ix_listK (K := K) rfl) (pv 0) pe_int (fun _ _ => rfl)) pe_int (fun _ _ => rfl)) (pv 1) (nomark _)) (pss_one (ps_ret pe_bl)) pss_nil)
    (pss_cons (ps_asg (pe_op op_sub (pe_ix (ix_listK (K := K) rfl) (pe_ix (ix_listK (K := K) rfl) (pv 0) pe_int (fun _ _ => rfl)) pe_int (fun _ _ => rfl)) (pv 1)) (pg_sub (pe_ix (ix_listK (K := K) rfl) (pv 0) pe_int (fun _ _ => rfl)) pe_int set_list))
    (pss_one (ps_ret pe_bl)))), ?_⟩
  refine ⟨_, rfl, r, _, _, _, rfl, rfl, SqL.of hR, at_of (j := 1) rfl rfl, c, _, _, _, rfl, rfl, SqL.of hC, at_of (j := 0) rfl rfl, _, rfl, _, _, rfl, rfl, _, rfl, ?_⟩
  refine ite2 (fun c1 => k0 (of_decide_eq_true c1)) (fun c1 => ?_)
  have c1' : ¬ n < m := of_decide_eq_false (Bool.eq_false_iff.mpr c1)
  refine ⟨_, rfl, r, _, _, _, rfl, rfl, SqL.of hR, at_of (j := 1) rfl rfl, c, _, _, _, rfl, rfl, SqL.of hC, at_of (j := 0) rfl rfl, _, rfl, _, _, rfl, rfl, ?_⟩
  refine ⟨_, rfl, r, _, _, _, rfl, rfl, SqL.of hR, at_of (j := 1) rfl rfl, c, _, _, 0, rfl, rfl, hC, rfl, ?_⟩
  exact k1 (by omega)
end
end Lz

set_option Elab.async false
set_option linter.all false
set_option maxRecDepth 100000
set_option maxHeartbeats 4000000
namespace Lz
open PySem PySem.Spec PyProof.Rows L2
/-- what a drawing of a part finds: pen, world, scope, how many parts and which names are left -/
structure En (K : PySem.W.Frag) (H : Hp) (W : List (Str × Int)) (sc : List Str) (p a wl sl c st : Addr) (n : Int) (ss : List Str) : Prop where
  pen : PenAt H p a
  wld : WAt K H wl W
  scp : H sl = some (.lst (sc.map V.str))
  cnt : H c = some (.lst [.int n])
  stk : H st = some (.lst (ss.map V.str))
  dw : ¬ wl ∈ [p, c, st]
  ds : ¬ sl ∈ [p, c, st]
  da : ¬ a ∈ [p, c, st]
  pc : p ≠ c
  ps : p ≠ st
  cs : c ≠ st
  nw : ∀ f, f ∈ W → nmOk f.1 ∧ 0 ≤ f.2 ∧ f.2 ≤ 4
  nc : ∀ x, x ∈ sc → nmOk x
  ns : ∀ x, x ∈ ss → nmOk x
  lw : W.length ≤ 8
  ls : sc.length + ss.length ≤ 100
theorem mem3 {p c st : Addr} : p ∈ [p, c, st] ∧ c ∈ [p, c, st] ∧ st ∈ [p, c, st] := ⟨List.mem_cons_self, List.mem_cons_of_mem _ List.mem_cons_self, List.mem_cons_of_mem _ (List.mem_cons_of_mem _ List.mem_cons_self)⟩
theorem sub3 {p c st : Addr} : ∀ x, x ∈ [p] → x ∈ [p, c, st] := fun x h => by rw [List.mem_singleton.mp h]; exact mem3.1
theorem not3 {p c st x : Addr} (h1 : x ≠ p) (h2 : x ≠ c) (h3 : x ≠ st) : ¬ x ∈ [p, c, st] := fun m => by
  rcases List.mem_cons.mp m with e | m
  · exact h1 e
  · rcases List.mem_cons.mp m with e | m
    · exact h2 e
    · exact h3 (List.mem_singleton.mp m)
section
variable {K : PySem.W.Frag} {H H' : Hp} {W : List (Str × Int)} {sc : List Str} {p a wl sl c st : Addr} {n n' : Int} {ss ss' : List Str}
theorem En.step (E : En K H W sc p a wl sl c st n ss) (k : Kp [p, c, st] H H') (pen : PenAt H' p a) (hc : H' c = some (.lst [.int n'])) (hs : H' st = some (.lst (ss'.map V.str))) (hx : ∀ x, x ∈ ss' → x ∈ ss) (hl : ss'.length ≤ ss.length) : En K H' W sc p a wl sl c st n' ss' where
  pen := pen
  wld := E.wld.keep k E.dw
  scp := k.lst E.scp E.ds
  cnt := hc
  stk := hs
  dw := E.dw
  ds := E.ds
  da := E.da
  pc := E.pc
  ps := E.ps
  cs := E.cs
  nw := E.nw
  nc := E.nc
  ns := fun x m => E.ns x (hx x m)
  lw := E.lw
  ls := by have := E.ls; omega
theorem En.same (E : En K H W sc p a wl sl c st n ss) (k : Kp [p] H H') (pen : PenAt H' p a) : En K H' W sc p a wl sl c st n ss :=
  E.step (k.mono sub3) pen (k.lst E.cnt (not1 E.pc.symm)) (k.lst E.stk (not1 E.ps.symm)) (fun _ m => m) (Nat.le_refl _)
theorem En.new {q : Addr} {o : HO} (E : En K H W sc p a wl sl c st n ss) (h : H q = none) : En K (upd H q o) W sc p a wl sl c st n ss := E.same (Kp.new h) (E.pen.new h)
theorem En.fresh {q : Addr} (E : En K H W sc p a wl sl c st n ss) (h : H q = none) : ¬ q ∈ [p, c, st] :=
  not3 (E.pen.apart h).1 (ne_of_none E.cnt h).symm (ne_of_none E.stk h).symm
/-- some parts less -/
theorem En.less {m : Int} (E : En K H W sc p a wl sl c st n ss) : En K (upd H c (.lst [.int m])) W sc p a wl sl c st m ss := by
  have na : c ≠ a := fun e => E.da (by rw [← e]; exact mem3.2.1)
  exact E.step (Kp.put E.cnt mem3.2.1) (E.pen.mut E.pc.symm na) upd_same (by rw [upd_ne E.cs.symm]; exact E.stk) (fun _ m => m) (Nat.le_refl _)
theorem En.room {r : Addr} {dp : Int} (E : En K H W sc p a wl sl c st n ss) (h : H r = some (.lst [.int dp, .ref c, .ref st])) : ¬ r ∈ [p, c, st] := by
  obtain ⟨ns, t, q, h1, _⟩ := E.pen
  refine not3 (ne_of h h1 fun e => ?_) (ne_of h E.cnt fun e => ?_) (ne_of h E.stk fun e => ?_)
  · have e' := HO.lst.inj e
    cases e'
  · have e' := HO.lst.inj e
    cases e'
  · have e' := HO.lst.inj e
    cases ss with
    | nil => cases e'
    | cons x r => cases e'
theorem En.nms (E : En K H W sc p a wl sl c st n ss) : Nms W sc ss := ⟨fun f m => (E.nw f m).1, E.nc, E.ns⟩
end
/-- a part is drawn -/
def Drawn (K : PySem.W.Frag) (W : List (Str × Int)) (sc : List Str) (p a c st : Addr) (dp n : Int) (ss : List Str) (H : Hp) (Q : VK) : Prop :=
  ∀ (v : V) (d : Lz.P) (H' : Hp) (n' : Int) (ss' : List Str), Kp [p, c, st] H H' → PenAt H' p a → H' c = some (.lst [.int n']) → H' st = some (.lst (ss'.map V.str)) → Dp K H' v d.data → Dr W sc dp n ss n' ss' [d] → Q v H'
def wantOk (x : Str) : Prop := x = "number" ∨ x = "pair" ∨ x = "any"
def spPart (K : PySem.W.Frag) (k : Nat) : Sp := fun vs H Q _ => ∃ (p a wl sl r c st : Addr) (want : Str) (W : List (Str × Int)) (sc ss : List Str) (dp n : Int), vs = [.ref p, .ref wl, .ref sl, .ref r, .str want] ∧
  En K H W sc p a wl sl c st n ss ∧ H r = some (.lst [.int dp, .ref c, .ref st]) ∧ 0 ≤ dp ∧ dp < k ∧ wantOk want ∧ Drawn K W sc p a c st dp n ss H Q
/-- room: one less deep than the part -/
def spCall (K : PySem.W.Frag) (k : Nat) : Sp := fun vs H Q _ => ∃ (p a wl sl r c st : Addr) (want : Str) (W : List (Str × Int)) (sc ss : List Str) (dp n : Int), vs = [.ref p, .ref wl, .ref sl, .ref r, .str want] ∧
  En K H W sc p a wl sl c st n ss ∧ H r = some (.lst [.int dp, .ref c, .ref st]) ∧ 5 ≤ dp ∧ dp < k ∧ W ≠ [] ∧ wantOk want ∧ Drawn K W sc p a c st (dp + 1) n ss H Q
def spLet (K : PySem.W.Frag) (k : Nat) : Sp := fun vs H Q _ => ∃ (p a wl sl r c st : Addr) (want : Str) (W : List (Str × Int)) (sc ss : List Str) (dp n : Int), vs = [.ref p, .ref wl, .ref sl, .ref r, .str want] ∧
  En K H W sc p a wl sl c st n ss ∧ H r = some (.lst [.int dp, .ref c, .ref st]) ∧ 0 ≤ dp ∧ dp < k ∧ wantOk want ∧ Drawn K W sc p a c st (dp + 1) n ss H Q
/-- a leaf is a part -/
theorem leaf_of {K : PySem.W.Frag} {H : Hp} {W : List (Str × Int)} {sc ss : List Str} {p a wl sl c st : Addr} {n dp : Int} {want : Str} {Q : VK} {E : XK} (En : En K H W sc p a wl sl c st n ss) (D : Drawn K W sc p a c st dp n ss H Q) : spLeaf K [.ref p, .ref wl, .ref sl, .str want] H Q E :=
  ⟨p, a, wl, sl, want, W, sc, rfl, En.pen, En.wld, En.scp, fun e => En.dw (by rw [e]; exact mem3.1), fun e => En.ds (by rw [e]; exact mem3.1), fun f m => (En.nw f m).1, En.nc, Nat.le_trans En.lw (by decide), (by have := En.ls; omega),
    fun v d H' k pen hd hr => D v d H' n ss (k.mono sub3) pen (k.lst En.cnt (not1 En.pc.symm)) (k.lst En.stk (not1 En.ps.symm)) hd (hr _ _ _)⟩
section
variable {P : Program} {w : World} {K : PySem.W.Frag} {mg : Str → Option Value} {base : Heap} {f : Addr} {fd : FuncData}
abbrev sLCall : Stmt := topS 21
theorem scLCall : FnScope ["_law_pen_here", "_law_world", "_law_scope", "_law_room", "_law_want", "_law_name", "_law_wanted", "_law_many_here", "_law_part_here", "_law_inner_here", "_law_k"] ["_law_pen_here", "_law_world", "_law_scope", "_law_room", "_law_want"] (defScope sLCall) := ⟨rfl, rfl, rfl, by decide +kernel, rfl, by decide +kernel, by decide +kernel⟩
theorem ok_call {k j : Nat} (hj : 3 ≤ j) (F : Fun K "_law_call" "_law_call" sLCall f fd) (B : Bt mg) (CLDraw : C8.Cal P w K mg base 1 "_law_draw" (spDraw K) []) (CLLeaf : C8.Cal P w K mg base 3 "_law_leaf" (spLeaf K) []) (CLFits : C8.Cal P w K mg base 1 "_law_fits" (spFits K) [])
    (CLPart : C8.Cal P w K mg base j "_law_part" (spPart K k) []) : FnOk P w K mg base CX0 (j + 1) f fd ["_law_pen_here", "_law_world", "_law_scope", "_law_room", "_law_want"] (spCall K k) := by
  have ml := B.len
  have mmax := B.max
  have mrange := B.range
  refine F.ok scLCall (fun vs H Q E h => ?_) (fun cdv A outer s H vs Q E hr h => ?_)
  · obtain ⟨p, a, wl, sl, r, c, st, want, W, sc, ss, dp, n, rfl, _⟩ := h
    rfl
  obtain ⟨p, a, wl, sl, r, c, st, want, W, sc, ss, dp, n, rfl, En0, hR, hdp5, hdpk, hW0, hwant, D⟩ := h
  refine ⟨_, (pss_cons (ps_asg (pe_ix (ix_listK (K := K) rfl) (pv 1) (C8.pe_c CLDraw hr (by first | decide | omega) (by rfl) (pa_cons (pv 0) (pa_cons (pe_callB (call_lenK (K := K) rfl) (by rfl) ml PySem.boot_len (pa_cons (pv 1) pa_nil)) pa_nil))) (fun _ _ => rfl)) (pg_tupK (K := K) (n := 2) rfl rfl (pgs_cons (pg_name (i := 5) scLCall.nd rfl (.inl rfl)) (pgs_cons (pg_name (i := 6) scLCall.nd rfl (.inl rfl)) pgs_nil))))
    (pss_cons (ps_set (i := 7) scLCall.nd rfl (.inl rfl) (pe_callB (call_max2 rfl) (by rfl) mmax (by decide +kernel) (pa_cons pe_int (pa_cons (pe_op op_add (pv 6) (pe_ix (ix_listK (K := K) rfl) (pe_lst (pa_cons pe_int (pa_cons pe_int (pa_cons pe_int (pa_cons pe_int (pa_cons pe_int (pa_cons pe_int (pa_cons pe_int (pa_cons (pe_un un_neg pe_int) pa_nil))))))))) (C8.pe_c CLDraw hr (by first | decide | omega) (by rfl) (pa_cons (pv 0) (pa_cons pe_int pa_nil))) (fun _ _ => rfl))) pa_nil))))
    (pss_cons (ps_if (pt_not (pt_truthK (K := K) rfl (C8.pe_c CLFits hr (by first | decide | omega) (by rfl) (pa_cons (pv 3) (pa_cons (pe_op op_mul pe_int (pv 7)) pa_nil))) (fun _ => rfl))) (pss_one (ps_ret (C8.pe_c CLLeaf hr (by first | decide | omega) (by rfl) (pa_cons (pv 0) (pa_cons (pv 1) (pa_cons (pv 2) (pa_cons (pv 4) pa_nil))))))) pss_nil)
    (pss_cons (ps_set (i := 8) scLCall.nd rfl (.inl rfl) (pe_tup (pa_cons pe_str (pa_cons (pv 5) pa_nil))))
    (pss_cons (ps_set (i := 9) scLCall.nd rfl (.inl rfl) (pe_lst (pa_cons (pe_op op_sub (pe_ix (ix_listK (K := K) rfl) (pv 3) pe_int (fun _ _ => rfl)) (pv 7)) (pa_cons (pe_ix (ix_listK (K := K) rfl) (pv 3) pe_int (fun _ _ => rfl)) (pa_cons (pe_ix (ix_listK (K := K) rfl) (pv 3) pe_int (fun _ _ => rfl)) pa_nil)))))
    (pss_cons (ps_for PassesOwn.never rfl (pi_range1 (by rfl) mrange (pa_cons (pv 7) pa_nil)) (pg_name (i := 10) scLCall.nd rfl (.inl rfl)) (pss_one (ps_set (i := 8) scLCall.nd rfl (.inl rfl) (pe_tup (pa_cons pe_str (pa_cons (pv 8) (pa_cons (C8.pe_c CLPart hr (by first | decide | omega) (by rfl) (pa_cons (pv 0) (pa_cons (pv 1) (pa_cons (pv 2) (pa_cons (pv 9) (pa_cons (pe_ix (ix_listK (K := K) rfl) (pe_lst (pa_cons pe_str (pa_cons pe_str pa_nil))) (pe_op op_fdiv (C8.pe_c CLDraw hr (by first | decide | omega) (by rfl) (pa_cons (pv 0) (pa_cons pe_int pa_nil))) pe_int) (fun _ _ => rfl)) pa_nil)))))) pa_nil)))))))
    (pss_one (ps_ret (pv 8))))))))), ?_⟩
  have hWl : 0 < W.length := List.length_pos_iff.mpr hW0
  -- name, wanted
  obtain ⟨ws, hws, hdpw⟩ := id En0.wld
  have hlw : ws.length = W.length := by rw [hdpw.length, List.length_map]
  have lw := En0.lw
  refine ⟨_, rfl, _, rfl, _, rfl, wl, _, rfl, .inl (SqL.of hws), p, a, _, rfl, En0.pen, (by rw [hlw]; omega), (by rw [hlw]; omega), fun z H1 k1 pen1 z0 z1 => ?_⟩
  rw [hlw] at z1
  have hz : z.toNat < W.length := by omega
  have En1 := En0.same k1 pen1
  have hR1 := k1.lst hR (fun m => En0.room hR (sub3 _ m))
  obtain ⟨ws, hws, hdpw⟩ := id En1.wld
  obtain ⟨v, hv, hvd⟩ := hdpw.get (i := z.toNat) (d := wD W[z.toNat]) (by rw [List.getElem?_map, List.getElem?_eq_getElem hz]; rfl)
  obtain ⟨t, xs, rfl, ht, hxs⟩ := hvd.tup_of
  have hmem := List.getElem_mem hz
  generalize W[z.toNat] = fw at hmem hxs hvd
  obtain ⟨fn, wn⟩ := fw
  obtain ⟨hfn, hwn0, hwn4⟩ := En0.nw _ hmem
  obtain rfl : xs = [.str fn, .int wn] := by
    cases hxs with
    | cons h1 h2 =>
      cases h1
      cases h2 with
      | cons h3 h4 =>
        cases h3
        cases h4
        rfl
  refine ⟨wl, _, _, _, rfl, rfl, SqL.of hws, at_of (j := z.toNat) (by omega) hv, t, _, rfl, ht, rfl, _, _, rfl, _, _, rfl, rfl, ?_⟩
  -- many
  refine ⟨_, rfl, _, rfl, (by show 8 ≤ sizeLine; decide), fun l hl => ?_⟩
  have En2 := En1.new (o := .lst [.int 0, .int 0, .int 0, .int 0, .int 0, .int 0, .int 1, .int (-1)]) hl
  have nl := En1.fresh hl
  have hl2 : (upd H1 l (.lst [.int 0, .int 0, .int 0, .int 0, .int 0, .int 0, .int 1, .int (-1)])) l = some (.lst [.int 0, .int 0, .int 0, .int 0, .int 0, .int 0, .int 1, .int (-1)]) := upd_same
  have k2 : Kp [p, c, st] H (upd H1 l (.lst [.int 0, .int 0, .int 0, .int 0, .int 0, .int 0, .int 1, .int (-1)])) := (k1.mono sub3).trans (Kp.new hl)
  have hR2 := (Kp.new (S := []) (o := .lst [.int 0, .int 0, .int 0, .int 0, .int 0, .int 0, .int 1, .int (-1)]) hl).lst hR1 (fun m => nomatch m)
  refine ⟨_, rfl, p, a, 8, rfl, En2.pen, (by decide), (by decide), fun y H3 k3 pen3 y0 y1 => ?_⟩
  have En3 := En2.same k3 pen3
  have hl3 := k3.lst hl2 (fun m => nl (sub3 _ m))
  have hR3 := k3.lst hR2 (fun m => En2.room hR2 (sub3 _ m))
  have k3' := k2.trans (k3.mono sub3)
  obtain ⟨e, he, he0, he1⟩ : ∃ e : Int, ([.int 0, .int 0, .int 0, .int 0, .int 0, .int 0, .int 1, .int (-1)] : List V)[y.toNat]? = some (.int e) ∧ -1 ≤ e ∧ e ≤ 1 := by
    have h0 : y.toNat < 8 := by omega
    generalize y.toNat = j at h0
    match j, h0 with
    | 0, _ => exact ⟨0, rfl, by omega⟩
    | 1, _ => exact ⟨0, rfl, by omega⟩
    | 2, _ => exact ⟨0, rfl, by omega⟩
    | 3, _ => exact ⟨0, rfl, by omega⟩
    | 4, _ => exact ⟨0, rfl, by omega⟩
    | 5, _ => exact ⟨0, rfl, by omega⟩
    | 6, _ => exact ⟨1, rfl, by omega⟩
    | 7, _ => exact ⟨-1, rfl, by omega⟩
  refine ⟨l, _, _, _, rfl, rfl, SqL.of hl3, at_of (j := y.toNat) (by omega) he, _, _, rfl, rfl, _, _, rfl, ?_⟩
  obtain ⟨m, hm, hm5⟩ : ∃ m : Nat, (if wn + e > 0 then wn + e else 0) = (m : Int) ∧ m ≤ 5 := ⟨(if wn + e > 0 then wn + e else 0).toNat, by split <;> omega, by split <;> omega⟩
  show tSeq _ _ _ [some (.ref p), some (.ref wl), some (.ref sl), some (.ref r), some (.str want), some (.str fn), some (.int wn), some (.int (if wn + e > 0 then wn + e else 0)), none, none, none] H3
  rw [hm]
  clear k1 k2 hR1 hR2 hl2 hl3 En1 En2
  -- does it fit
  refine ⟨_, rfl, _, rfl, _, _, rfl, rfl, .inl ⟨by decide, by decide⟩, r, c, _, _, n, _, rfl, hR3, En3.cnt, fun hlt => ?_, fun hle => ?_⟩
  · refine ⟨false, rfl, ?_⟩
    refine ⟨_, rfl, _, rfl, _, rfl, _, rfl, ?_⟩
    exact leaf_of (E := C8.E0) (dp := dp + 1) En3 fun v d H' n' ss' kk => D v d H' n' ss' (k3'.trans kk)
  · refine ⟨true, rfl, ?_⟩
    have En4 := En3.less (m := n - 2 * m)
    have k4 : Kp [p, c, st] H (upd H3 c (.lst [.int (n - 2 * m)])) := k3'.trans (Kp.put En3.cnt mem3.2.1)
    have hR4 : (upd H3 c (.lst [.int (n - 2 * m)])) r = some (.lst [.int dp, .ref c, .ref st]) := by
      rw [upd_ne (fun e => En3.room hR3 (by rw [e]; exact mem3.2.1))]
      exact hR3
    generalize upd H3 c (.lst [.int (n - 2 * m)]) = H4 at En4 k4 hR4 ⊢
    -- the function, the room within
    refine ⟨_, rfl, (by show 2 ≤ sizeLine; decide), fun q0 hq0 => ?_⟩
    have En5 := En4.new (o := .tup [.str "fun", .str fn]) hq0
    have k5 : Kp [p, c, st] H (upd H4 q0 (.tup [.str "fun", .str fn])) := k4.trans (Kp.new hq0)
    have hR5 : (upd H4 q0 (.tup [.str "fun", .str fn])) r = some (.lst [.int dp, .ref c, .ref st]) := by rw [upd_ne (ne_of_none hR4 hq0)]; exact hR4
    have hd5 : Dp K (upd H4 q0 (.tup [.str "fun", .str fn])) (.ref q0) (Lz.P.fn fn).data := Dp.newT hq0 (.cons (.str _) (.cons (.str _) .nil)) rfl
    generalize upd H4 q0 (.tup [.str "fun", .str fn]) = H5 at En5 k5 hR5 hd5 ⊢
    refine ⟨_, rfl, r, _, _, _, rfl, rfl, SqL.of hR5, at_of (j := 0) rfl rfl, _, rfl, _, _, rfl, rfl, _, rfl, r, _, _, _, rfl, rfl, SqL.of hR5, at_of (j := 1) rfl rfl, _, rfl, r, _, _, _, rfl, rfl, SqL.of hR5, at_of (j := 2) rfl rfl, (by show 3 ≤ sizeLine; decide), fun r2 hr2 => ?_⟩
    have En6 := En5.new (o := .lst [.int (dp - m), .ref c, .ref st]) hr2
    have k6 : Kp [p, c, st] H (upd H5 r2 (.lst [.int (dp - m), .ref c, .ref st])) := k5.trans (Kp.new hr2)
    have hR6 : (upd H5 r2 (.lst [.int (dp - m), .ref c, .ref st])) r2 = some (.lst [.int (dp - m), .ref c, .ref st]) := upd_same
    have hd6 : Dp K (upd H5 r2 (.lst [.int (dp - m), .ref c, .ref st])) (.ref q0) (gives (.fn fn) []).data := Dp.keep (S := []) (Kp.new hr2) _ _ (data_fz _) hd5
    generalize upd H5 r2 (.lst [.int (dp - m), .ref c, .ref st]) = H6 at En6 k6 hR6 hd6 ⊢
    clear En0 En3 En4 En5 hR hR3 hR4 hR5 hd5 k3 k4 k5
    -- the things
    refine ⟨_, rfl, _, rfl, (by omega), (by omega), for_range (lo := 0) (n := (m : Int).toNat) (fun i σ H' => ∃ (v : V) (n' : Int) (ss' : List Str) (as : List Lz.P) (v10 : Option V),
        σ = [some (.ref p), some (.ref wl), some (.ref sl), some (.ref r), some (.str want), some (.str fn), some (.int wn), some (.int m), some v, some (.ref r2), v10] ∧ as.length = i ∧ Kp [p, c, st] H H' ∧ En K H' W sc p a wl sl c st n' ss' ∧
          H' r2 = some (.lst [.int (dp - m), .ref c, .ref st]) ∧ Dp K H' v (gives (.fn fn) as).data ∧ Dr W sc (dp - m) (n - 2 * m) ss n' ss' as)
      ⟨.ref q0, n - 2 * m, ss, [], none, rfl, rfl, k6, En6, hR6, hd6, .nil⟩ ?_ ?_⟩
    · rintro i σ H7 hi ⟨v, n', ss', as, v10, rfl, hlen, k7, En7, hR7, hd7, hdr⟩
      refine ⟨_, rfl, _, rfl, _, rfl, _, rfl, _, rfl, (by show 2 ≤ sizeLine; decide), fun l hl => ?_⟩
      have En8 := En7.new (o := .lst [.str "number", .str "any"]) hl
      have nl := En7.fresh hl
      have hl8 : (upd H7 l (.lst [.str "number", .str "any"])) l = some (.lst [.str "number", .str "any"]) := upd_same
      have hR8 : (upd H7 l (.lst [.str "number", .str "any"])) r2 = some (.lst [.int (dp - m), .ref c, .ref st]) := by rw [upd_ne (ne_of_none hR7 hl)]; exact hR7
      have k8 : Kp [p, c, st] H7 (upd H7 l (.lst [.str "number", .str "any"])) := Kp.new hl
      refine ⟨_, rfl, p, a, 3, rfl, En8.pen, (by decide), (by decide), fun g H9 k9 pen9 g0 g1 => ?_⟩
      have En9 := En8.same k9 pen9
      have hl9 := k9.lst hl8 (fun m => nl (sub3 _ m))
      have hR9 := k9.lst hR8 (fun m => En8.room hR8 (sub3 _ m))
      have k9' := k8.trans (k9.mono sub3)
      obtain ⟨wt, hwt, hwt'⟩ : ∃ wt : Str, ([.str "number", .str "any"] : List V)[(g / 2).toNat]? = some (.str wt) ∧ wantOk wt := by
        have h0 : (g / 2).toNat < 2 := by omega
        generalize (g / 2).toNat = j at h0
        match j, h0 with
        | 0, _ => exact ⟨_, rfl, .inl rfl⟩
        | 1, _ => exact ⟨_, rfl, .inr (.inr rfl)⟩
      refine ⟨_, _, rfl, rfl, ⟨by decide, by decide⟩, l, _, _, _, rfl, rfl, SqL.of hl9, at_of (j := (g / 2).toNat) (by show g / 2 = _; omega) hwt, ?_⟩
      refine ⟨p, a, wl, sl, r2, c, st, wt, W, sc, ss', dp - m, n', rfl, En9, hR9, (by omega), (by omega), hwt', fun u d H10 n2 ss2 k10 pen10 hc10 hs10 hd10 hdr10 => ?_⟩
      have En10 := En9.step k10 pen10 hc10 hs10 hdr10.sub hdr10.len
      have hR10 := k10.lst hR9 (En9.room hR9)
      have kk := k9'.trans k10
      have hd11 := Dp.keep kk _ _ (data_fz _) hd7
      refine ⟨(by show 3 ≤ sizeLine; decide), fun q hq => ?_⟩
      refine ⟨_, n2, ss2, as ++ [d], _, rfl, by rw [List.length_append, hlen]; rfl, k7.trans (kk.trans (Kp.new hq)), En10.new hq, by rw [upd_ne (ne_of_none hR10 hq)]; exact hR10, ?_, hdr.append hdr10⟩
      rw [gives_snoc]
      refine Dp.newT hq (.cons (.str _) (.cons hd11 (.cons hd10 .nil))) ?_
      show (true && (fz _ && (fz _ && true))) = true
      rw [data_fz, data_fz]
      rfl
    · rintro σ H7 ⟨v, n', ss', as, v10, rfl, hlen, k7, En7, hR7, hd7, hdr⟩
      refine ⟨_, rfl, D v _ H7 n' ss' k7 En7.pen En7.cnt En7.stk hd7 ?_⟩
      have hl : (as.length : Int) = m := by omega
      refine .call hmem (by omega) (by omega) (by omega) ?_ .nil
      have e1 : dp + 1 - 1 - (as.length : Int) = dp - m := by omega
      have e2 : n - 2 * (as.length : Int) = n - 2 * m := by omega
      rw [e1, e2]
      exact hdr
end
end Lz

set_option Elab.async false
set_option linter.all false
set_option maxRecDepth 100000
set_option maxHeartbeats 4000000
namespace Lz
open PySem PySem.Spec PyProof.Rows L2
theorem En.scope {K : PySem.W.Frag} {H : Hp} {W : List (Str × Int)} {sc sc' : List Str} {p a wl sl c st q : Addr} {n : Int} {ss : List Str} (E : En K H W sc p a wl sl c st n ss) (hq : H q = some (.lst (sc'.map V.str))) (nq : ¬ q ∈ [p, c, st]) (nc : ∀ x, x ∈ sc' → nmOk x) (ls : sc'.length + ss.length ≤ 100) : En K H W sc' p a wl q c st n ss :=
  ⟨E.pen, E.wld, hq, E.cnt, E.stk, E.dw, nq, E.da, E.pc, E.ps, E.cs, E.nw, nc, E.ns, E.lw, ls⟩
theorem En.mut {K : PySem.W.Frag} {H : Hp} {W : List (Str × Int)} {sc : List Str} {p a wl sl c st D : Addr} {n : Int} {ss : List Str} {xs : List V} {o : HO} (E : En K H W sc p a wl sl c st n ss) (h : H D = some (.lst xs)) (nS : ¬ D ∈ [p, c, st]) (na : D ≠ a) (nw : D ≠ wl) (nl : D ≠ sl) : En K (upd H D o) W sc p a wl sl c st n ss :=
  ⟨E.pen.mut (fun e => nS (by rw [e]; exact mem3.1)) na, E.wld.keep (Kp.put h List.mem_cons_self) (not1 nw.symm), by rw [upd_ne nl.symm]; exact E.scp, by rw [upd_ne (fun e => nS (by rw [← e]; exact mem3.2.1))]; exact E.cnt, by rw [upd_ne (fun e => nS (by rw [← e]; exact mem3.2.2))]; exact E.stk,
    E.dw, E.ds, E.da, E.pc, E.ps, E.cs, E.nw, E.nc, E.ns, E.lw, E.ls⟩
/-- an address that is new is none of what is there -/
theorem En.apart {K : PySem.W.Frag} {H : Hp} {W : List (Str × Int)} {sc : List Str} {p a wl sl c st D : Addr} {n : Int} {ss : List Str} (E : En K H W sc p a wl sl c st n ss) (h : H D = none) : ¬ D ∈ [p, c, st] ∧ D ≠ a ∧ D ≠ wl ∧ D ≠ sl := by
  obtain ⟨ws, h1, _⟩ := E.wld
  exact ⟨E.fresh h, (E.pen.apart h).2, (ne_of_none h1 h).symm, (ne_of_none E.scp h).symm⟩
theorem drop_rev {ss : List Str} {k : Nat} (h : k < ss.length) : (ss.drop k).reverse = (ss.drop (k + 1)).reverse ++ [ss[k]] := by
  rw [List.drop_eq_getElem_cons h, List.reverse_cons]
theorem zip_snoc {nm : List Str} {as : List Lz.P} {d : Lz.P} {x : Str} (h : nm[as.length]? = some x) : List.zipWith rowD (nm.take (as.length + 1)) (Lz.P.datas (as ++ [d])) = List.zipWith rowD (nm.take as.length) (Lz.P.datas as) ++ [rowD x d.data] := by
  obtain ⟨hl, hx⟩ := List.getElem?_eq_some_iff.mp h
  rw [datas_map, datas_map, List.map_append, List.take_add_one, h]
  show List.zipWith rowD (nm.take as.length ++ [x]) (as.map Lz.P.data ++ [d.data]) = _
  rw [List.zipWith_append (by rw [List.length_take, List.length_map]; omega)]
  rfl
section
variable {P : Program} {w : World} {K : PySem.W.Frag} {mg : Str → Option Value} {base : Heap} {f : Addr} {fd : FuncData}
abbrev sLLet : Stmt := topS 22
theorem scLLet : FnScope ["_law_pen_here", "_law_world", "_law_scope", "_law_room", "_law_want", "_law_many_here", "_law_names_here", "_law_rows_here", "_law_name", "_law_kind", "_law_k"] ["_law_pen_here", "_law_world", "_law_scope", "_law_room", "_law_want"] (defScope sLLet) := ⟨rfl, rfl, rfl, by decide +kernel, rfl, by decide +kernel, by decide +kernel⟩
theorem ok_let {k j : Nat} (hj : 3 ≤ j) (F : Fun K "_law_let" "_law_let" sLLet f fd) (B : Bt mg) (CLDraw : C8.Cal P w K mg base 1 "_law_draw" (spDraw K) []) (CLLeaf : C8.Cal P w K mg base 3 "_law_leaf" (spLeaf K) []) (CLFits : C8.Cal P w K mg base 1 "_law_fits" (spFits K) [])
    (CLPart : C8.Cal P w K mg base j "_law_part" (spPart K k) []) : FnOk P w K mg base CX0 (j + 1) f fd ["_law_pen_here", "_law_world", "_law_scope", "_law_room", "_law_want"] (spLet K k) := by
  have ml := B.len
  have mtup := B.tuple
  have mrange := B.range
  refine F.ok scLLet (fun vs H Q E h => ?_) (fun cdv A outer s H vs Q E hr h => ?_)
  · obtain ⟨p, a, wl, sl, r, c, st, want, W, sc, ss, dp, n, rfl, _⟩ := h
    rfl
  obtain ⟨p, a, wl, sl, r, c, st, want, W, sc, ss, dp, n, rfl, En0, hR, hdp0, hdpk, hwant, D⟩ := h
  refine ⟨_, (pss_cons (ps_set (i := 5) scLLet.nd rfl (.inl rfl) (pe_ix (ix_listK (K := K) rfl) (pe_lst (pa_cons pe_int (pa_cons pe_int (pa_cons pe_int (pa_cons pe_int (pa_cons pe_int (pa_cons pe_int (pa_cons pe_int pa_nil)))))))) (C8.pe_c CLDraw hr (by first | decide | omega) (by rfl) (pa_cons (pv 0) (pa_cons pe_int pa_nil))) (fun _ _ => rfl)))
    (pss_cons (ps_if (PW.pt (pw_or (pt_cmpR op_lt (pe_callB (call_lenK (K := K) rfl) (by rfl) ml PySem.boot_len (pa_cons (pe_ix (ix_listK (K := K) rfl) (pv 3) pe_int (fun _ _ => rfl)) pa_nil)) (pv 5) (nomark _)) (pw_or1 (pt_not (pt_truthK (K := K) rfl (C8.pe_c CLFits hr (by first | decide | omega) (by rfl) (pa_cons (pv 3) (pa_cons (pe_op op_add (pv 5) pe_int) pa_nil))) (fun _ => rfl)))))) (pss_one (ps_ret (C8.pe_c CLLeaf hr (by first | decide | omega) (by rfl) (pa_cons (pv 0) (pa_cons (pv 1) (pa_cons (pv 2) (pa_cons (pv 4) pa_nil))))))) pss_nil)
    (pss_cons (ps_setLc (i := 6) (own := [("_law_k", 10)]) rfl scLLet.nd rfl rfl (sw_true rfl rfl rfl (by decide +kernel)) (pi_range1 (by rfl) mrange (pa_cons (pv 5) pa_nil)) (blkOk_by (N := ["_law_pen_here", "_law_world", "_law_scope", "_law_room", "_law_want", "_law_many_here", "_law_names_here", "_law_rows_here", "_law_name", "_law_kind", "_law_k"]) (sc := defScope sLLet) (by decide +kernel)) (fun _ _ _ _ _ => (pg_name (i := 10) scLLet.nd rfl (.inl rfl))) (fun _ _ _ _ _ => pts_nil) (fun _ _ _ _ _ => (pe_bm0K (K := K) rfl PySem.F.plainAttrs_list PySem.F.slot_list_pop PySem.F.type_list_pop mt_pop (pe_ix (ix_listK (K := K) rfl) (pv 3) pe_int (fun _ _ => rfl)))))
    (pss_cons (ps_set (i := 7) scLLet.nd rfl (.inl rfl) (pe_lst pa_nil))
    (pss_cons (ps_for PassesOwn.never rfl (pi_listK (K := K) rfl (pv 6)) (pg_name (i := 8) scLLet.nd rfl (.inl rfl)) (pss_cons (ps_set (i := 9) scLLet.nd rfl (.inl rfl) (pe_ix (ix_listK (K := K) rfl) (pe_lst (pa_cons pe_str (pa_cons pe_str (pa_cons pe_str pa_nil)))) (C8.pe_c CLDraw hr (by first | decide | omega) (by rfl) (pa_cons (pv 0) (pa_cons pe_int pa_nil))) (fun _ _ => rfl)))
    (pss_one (ps_expr (pe_bmK (K := K) rfl PySem.F.plainAttrs_list PySem.F.slot_list_append PySem.F.type_list_append mt_append (pv 7) (pa_cons (pe_tup (pa_cons (pv 8) (pa_cons (C8.pe_c CLPart hr (by first | decide | omega) (by rfl) (pa_cons (pv 0) (pa_cons (pv 1) (pa_cons (pe_op op_cat (pv 2) (pv 6)) (pa_cons (pv 3) (pa_cons (pv 9) pa_nil)))))) pa_nil))) pa_nil))))))
    (pss_one (ps_ret (pe_tup (pa_cons pe_str (pa_cons (pe_callTy (call_tupleK (K := K) rfl) (by rfl) mtup (by decide +kernel) (pa_cons (pv 7) pa_nil)) (pa_cons (C8.pe_c CLPart hr (by first | decide | omega) (by rfl) (pa_cons (pv 0) (pa_cons (pv 1) (pa_cons (pe_op op_cat (pv 2) (pv 6)) (pa_cons (pv 3) (pa_cons (pv 4) pa_nil)))))) pa_nil))))))))))), ?_⟩
  -- many
  refine ⟨(by show 7 ≤ sizeLine; decide), fun l hl => ?_⟩
  have En1 := En0.new (o := .lst [.int 1, .int 1, .int 2, .int 1, .int 2, .int 3, .int 4]) hl
  have nl := En0.fresh hl
  have hl1 : (upd H l (.lst [.int 1, .int 1, .int 2, .int 1, .int 2, .int 3, .int 4])) l = some (.lst [.int 1, .int 1, .int 2, .int 1, .int 2, .int 3, .int 4]) := upd_same
  have hR1 : (upd H l (.lst [.int 1, .int 1, .int 2, .int 1, .int 2, .int 3, .int 4])) r = some (.lst [.int dp, .ref c, .ref st]) := by rw [upd_ne (ne_of_none hR hl)]; exact hR
  have k1 : Kp [p, c, st] H (upd H l (.lst [.int 1, .int 1, .int 2, .int 1, .int 2, .int 3, .int 4])) := Kp.new hl
  refine ⟨_, rfl, p, a, 7, rfl, En1.pen, (by decide), (by decide), fun y H2 k2 pen2 y0 y1 => ?_⟩
  have En2 := En1.same k2 pen2
  have hl2 := k2.lst hl1 (fun m => nl (sub3 _ m))
  have hR2 := k2.lst hR1 (fun m => En1.room hR1 (sub3 _ m))
  have k2' := k1.trans (k2.mono sub3)
  obtain ⟨m, hm, hm1, hm4⟩ : ∃ m : Nat, ([.int 1, .int 1, .int 2, .int 1, .int 2, .int 3, .int 4] : List V)[y.toNat]? = some (.int (m : Int)) ∧ 1 ≤ m ∧ m ≤ 4 := by
    have h0 : y.toNat < 7 := by omega
    generalize y.toNat = j at h0
    match j, h0 with
    | 0, _ => exact ⟨1, rfl, by omega, by omega⟩
    | 1, _ => exact ⟨1, rfl, by omega, by omega⟩
    | 2, _ => exact ⟨2, rfl, by omega, by omega⟩
    | 3, _ => exact ⟨1, rfl, by omega, by omega⟩
    | 4, _ => exact ⟨2, rfl, by omega, by omega⟩
    | 5, _ => exact ⟨3, rfl, by omega, by omega⟩
    | 6, _ => exact ⟨4, rfl, by omega, by omega⟩
  refine ⟨l, _, _, _, rfl, rfl, SqL.of hl2, at_of (j := y.toNat) (by omega) hm, ?_⟩
  clear k1 k2 hR1 hl1 hl2 En1 nl
  -- names enough, does it fit
  have hls : (ss.map V.str).length = ss.length := List.length_map _
  refine ⟨_, rfl, r, _, _, _, rfl, rfl, SqL.of hR2, at_of (j := 2) rfl rfl, st, _, rfl, .inl (SqL.of En2.stk), _, rfl, _, _, rfl, rfl, _, rfl, ?_⟩
  refine ite2 (fun c1 => ?_) (fun c1 => ?_)
  · refine ⟨_, rfl, _, rfl, _, rfl, _, rfl, ?_⟩
    exact leaf_of (E := C8.E0) (dp := dp + 1) En2 fun v d H' n' ss' kk => D v d H' n' ss' (k2'.trans kk)
  have hms : m ≤ ss.length := by
    have c1' : ¬ (((ss.map V.str).length : Nat) : Int) < (m : Int) := of_decide_eq_false (Bool.eq_false_iff.mpr c1)
    rw [hls] at c1'
    omega
  refine ⟨_, rfl, _, rfl, _, _, rfl, rfl, r, c, _, _, n, _, rfl, hR2, En2.cnt, fun hlt => ?_, fun hle => ?_⟩
  · refine ⟨false, rfl, ?_⟩
    refine ⟨_, rfl, _, rfl, _, rfl, _, rfl, ?_⟩
    exact leaf_of (E := C8.E0) (dp := dp + 1) En2 fun v d H' n' ss' kk => D v d H' n' ss' (k2'.trans kk)
  refine ⟨true, rfl, ?_⟩
  have En3 := En2.less (m := n - (m + 1))
  have k3 : Kp [p, c, st] H (upd H2 c (.lst [.int (n - (m + 1))])) := k2'.trans (Kp.put En2.cnt mem3.2.1)
  have hR3 : (upd H2 c (.lst [.int (n - (m + 1))])) r = some (.lst [.int dp, .ref c, .ref st]) := by
    rw [upd_ne (fun e => En2.room hR2 (by rw [e]; exact mem3.2.1))]
    exact hR2
  generalize upd H2 c (.lst [.int (n - (m + 1))]) = H3 at En3 k3 hR3 ⊢
  clear En2 hR2 k2'
  -- the names
  refine ⟨_, rfl, _, rfl, (by omega), (by omega), fun nl hnl => ?_⟩
  have nnl := En3.fresh hnl
  have hnl3 : H nl = none := k3.free hnl nnl
  have nst : nl ≠ st := fun e => nnl (by rw [e]; exact mem3.2.2)
  have nrl : r ≠ nl := ne_of_none hR3 hnl
  have hmt : (m : Int).toNat = m := by omega
  refine lc_range (lo := 0) (n := (m : Int).toNat) (fun i H' => Kp [p, c, st] H3 H' ∧ PenAt H' p a ∧ H' c = some (.lst [.int (n - (m + 1))]) ∧ H' st = some (.lst ((ss.take (ss.length - i)).map V.str)) ∧ H' nl = some (.lst ((ss.drop (ss.length - i)).reverse.map V.str)) ∧ H' r = some (.lst [.int dp, .ref c, .ref st]))
    ⟨Kp.new hnl, (En3.new hnl).pen, (En3.new hnl).cnt, ?_, ?_, ?_⟩ (fun i H4 hi ⟨k4, pen4, hc4, hs4, hn4, hR4⟩ => ?_) (fun H4 ⟨k4, pen4, hc4, hs4, hn4, hR4⟩ => ?_)
  · rw [upd_ne nst.symm, En3.stk, Nat.sub_zero, List.take_length]
  · rw [upd_same, Nat.sub_zero, List.drop_length]
    rfl
  · rw [upd_ne nrl]
    exact hR3
  · have hi' : i < m := by omega
    have hk : ss.length - i - 1 < ss.length := by omega
    have e1 : ss.length - (i + 1) = ss.length - i - 1 := by omega
    have e2 : ss.length - i = (ss.length - i - 1) + 1 := by omega
    refine ⟨rfl, ?_⟩
    refine ⟨_, rfl, r, _, _, _, rfl, rfl, SqL.of hR4, at_of (j := 2) rfl rfl, .inl ⟨rfl, _, SqL.of hs4⟩, st, _, .str ss[ss.length - i - 1], rfl, rfl, hs4, ?_, ?_⟩
    · rw [List.length_map, List.length_take, List.getElem?_map, Nat.min_eq_left (by omega), List.getElem?_take_of_lt (by omega), List.getElem?_eq_getElem hk]
      rfl
    · refine ⟨_, (by rw [upd_ne nst]; exact hn4), (by rw [List.length_map, List.length_reverse, List.length_drop]; exact small1000 (by omega)), ?_⟩
      have nsr : r ≠ st := fun e => En3.room hR3 (by rw [e]; exact mem3.2.2)
      refine ⟨(k4.trans (Kp.put hs4 mem3.2.2)).mut hnl, (pen4.mut (fun e => En3.ps e.symm) (fun e => En3.da (by rw [← e]; exact mem3.2.2))).mut (fun e => nnl (by rw [e]; exact mem3.1)) (En3.apart hnl).2.1, ?_, ?_, ?_, ?_⟩
      · rw [upd_ne (fun e => nnl (by rw [← e]; exact mem3.2.1)), upd_ne En3.cs]
        exact hc4
      · rw [upd_ne nst.symm, upd_same, e1, List.map_take, List.map_take, List.dropLast_eq_take, List.take_take, List.length_take, List.length_map]
        congr 3
        omega
      · rw [upd_same, e1, drop_rev hk, ← e2, List.map_append]
        rfl
      · rw [upd_ne nrl, upd_ne nsr]
        exact hR4
  rw [hmt] at hs4 hn4
  generalize hkk : ss.length - m = kk at hs4 hn4
  obtain ⟨nm, hnm⟩ : ∃ nm : List Str, nm = (ss.drop kk).reverse := ⟨_, rfl⟩
  rw [← hnm] at hn4
  have hnml : nm.length = m := by rw [hnm, List.length_reverse, List.length_drop]; omega
  have hnms : ∀ x, x ∈ nm → nmOk x := fun x hx => En3.ns x (by
    rw [hnm] at hx
    exact List.mem_of_mem_drop (List.mem_reverse.mp hx))
  have En4 := En3.step k4 pen4 hc4 hs4 (fun x hx => List.mem_of_mem_take hx) (by rw [List.length_take]; omega)
  have k4' := k3.trans k4
  -- rows
  refine ⟨Nat.zero_le _, fun lr hlr => ?_⟩
  have En5 := En4.new (o := .lst []) hlr
  obtain ⟨nlr, nlra, nlrw, nlrs⟩ := En4.apart hlr
  have hlr0 : H lr = none := k4'.free hlr nlr
  have k5 : Kp [p, c, st] H (upd H4 lr (.lst [])) := k4'.mut hlr0
  have hn5 : (upd H4 lr (.lst [])) nl = some (.lst (nm.map V.str)) := by rw [upd_ne (ne_of_none hn4 hlr)]; exact hn4
  have hR5 : (upd H4 lr (.lst [])) r = some (.lst [.int dp, .ref c, .ref st]) := by rw [upd_ne (ne_of_none hR4 hlr)]; exact hR4
  have hr5 : (upd H4 lr (.lst [])) lr = some (.lst []) := upd_same
  have nlrn : nl ≠ lr := ne_of_none hn4 hlr
  have nlrr : r ≠ lr := ne_of_none hR4 hlr
  generalize upd H4 lr (.lst []) = H5 at En5 k5 hn5 hR5 hr5 ⊢
  clear En4 En3 k4 k3 hR3 hR4 hs4 hn4 hc4 pen4
  have hls' : sc.length + nm.length + kk ≤ 100 := by have := En0.ls; omega
  refine ⟨_, rfl, nl, rfl, ⟨_, SqL.of hn5⟩, for_list (K := K) (a := nl) (xs := nm.map V.str) (fun i σ H' => ∃ (n' : Int) (ss' : List Str) (as : List Lz.P) (rs : List V) (v8 v9 : Option V),
      σ = [some (.ref p), some (.ref wl), some (.ref sl), some (.ref r), some (.str want), some (.int m), some (.ref nl), some (.ref lr), v8, v9, none] ∧ as.length = i ∧ Kp [p, c, st] H H' ∧ En K H' W sc p a wl sl c st n' ss' ∧ ss'.length ≤ kk ∧
      H' nl = some (.lst (nm.map V.str)) ∧ H' r = some (.lst [.int dp, .ref c, .ref st]) ∧ H' lr = some (.lst rs) ∧ DpAll K H' rs (List.zipWith rowD (nm.take i) (Lz.P.datas as)) ∧ Dr W (sc ++ nm) dp (n - (m + 1)) (ss.take kk) n' ss' as)
    ⟨n - (m + 1), ss.take kk, [], [], none, none, rfl, rfl, k5, En5, by rw [List.length_take]; omega, hn5, hR5, hr5, .nil, .nil⟩ (fun i σ H' _ ⟨_, _, _, _, _, _, _, _, _, _, _, h, _⟩ => SqL.of h) ?_ ?_⟩
  · rintro i x σ H6 hi ⟨n', ss', as, rs, v8, v9, rfl, hlen, k6, En6, hss, hn6, hR6, hr6, hrows, hdr⟩
    obtain ⟨nx, hnx, rfl⟩ : ∃ nx, nm[i]? = some nx ∧ x = V.str nx := by
      rw [List.getElem?_map] at hi
      cases e : nm[i]? with
      | none => rw [e] at hi; cases hi
      | some y => rw [e] at hi; exact ⟨y, rfl, (Option.some.inj hi).symm⟩
    have hil : i < nm.length := (List.getElem?_eq_some_iff.mp hnx).1
    have hrl : rs.length ≤ 4 := by
      rw [hrows.length, List.length_zipWith, List.length_take]
      omega
    -- the kind
    refine ⟨(by show 3 ≤ sizeLine; decide), fun l hl => ?_⟩
    have k7 : Kp [p, c, st] H6 (upd H6 l (.lst [.str "number", .str "pair", .str "any"])) := Kp.new hl
    have En7 := En6.new (o := .lst [.str "number", .str "pair", .str "any"]) hl
    have hl7 : (upd H6 l (.lst [.str "number", .str "pair", .str "any"])) l = some (.lst [.str "number", .str "pair", .str "any"]) := upd_same
    have nl7 := En6.fresh hl
    have hn7 := k7.lst hn6 nnl
    have hR7 := k7.lst hR6 (En6.room hR6)
    have hr7 := k7.lst hr6 nlr
    refine ⟨_, rfl, p, a, 3, rfl, En7.pen, (by decide), (by decide), fun g H8 k8 pen8 g0 g1 => ?_⟩
    have k8' := k8.mono (T := [p, c, st]) sub3
    have En8 := En7.same k8 pen8
    have hl8 := k8'.lst hl7 nl7
    have hn8 := k8'.lst hn7 nnl
    have hR8 := k8'.lst hR7 (En7.room hR7)
    have hr8 := k8'.lst hr7 nlr
    obtain ⟨wt, hwt, hwt'⟩ : ∃ wt : Str, ([.str "number", .str "pair", .str "any"] : List V)[g.toNat]? = some (.str wt) ∧ wantOk wt := by
      have h0 : g.toNat < 3 := by omega
      generalize g.toNat = j at h0
      match j, h0 with
      | 0, _ => exact ⟨_, rfl, .inl rfl⟩
      | 1, _ => exact ⟨_, rfl, .inr (.inl rfl)⟩
      | 2, _ => exact ⟨_, rfl, .inr (.inr rfl)⟩
    refine ⟨l, _, _, _, rfl, rfl, SqL.of hl8, at_of (j := g.toNat) (by omega) hwt, ?_⟩
    -- the row
    refine ⟨_, rfl, .inl ⟨rfl, _, SqL.of hr8⟩, _, rfl, _, rfl, _, rfl, _, rfl, _, rfl, sl, nl, _, _, rfl, rfl, En8.scp, hn8, (by rw [List.length_map, List.length_map]; exact Nat.le_of_lt (small1000 (by omega))), fun q hq => ?_⟩
    have k9 : Kp [p, c, st] H8 (upd H8 q (.lst (sc.map V.str ++ nm.map V.str))) := Kp.new hq
    have En9 := (En8.new (o := .lst (sc.map V.str ++ nm.map V.str)) hq).scope (sc' := sc ++ nm) (q := q) (by rw [upd_same, List.map_append]) (En8.fresh hq) (fun x hx => (List.mem_append.mp hx).elim (En8.nc x) (hnms x)) (by rw [List.length_append]; omega)
    have hR9 := k9.lst hR8 (En8.room hR8)
    have hn9 := k9.lst hn8 nnl
    have hr9 := k9.lst hr8 nlr
    have hs9 := k9.lst En8.scp En8.ds
    refine ⟨_, rfl, _, rfl, p, a, wl, q, r, c, st, wt, W, sc ++ nm, ss', dp, n', rfl, En9, hR9, hdp0, hdpk, hwt', fun u d H10 n2 ss2 k10 pen10 hc10 hs10 hd10 hdr10 => ?_⟩
    have hlen2 := hdr10.len
    have kk10 := k7.trans (k8'.trans (k9.trans k10))
    have En10 := En6.step kk10 pen10 hc10 hs10 hdr10.sub hlen2
    have hR10 := kk10.lst hR6 (En6.room hR6)
    have hn10 := kk10.lst hn6 nnl
    have hr10 := kk10.lst hr6 nlr
    have hrows10 := Dp.keepAll kk10 _ _ rows_fz hrows
    refine ⟨(by show 2 ≤ sizeLine; decide), fun t ht => ?_⟩
    have k11 : Kp [p, c, st] H10 (upd H10 t (.tup [.str nx, u])) := Kp.new ht
    have En11 := En10.new (o := .tup [.str nx, u]) ht
    have hr11 := k11.lst hr10 nlr
    have hn11 := k11.lst hn10 nnl
    have hR11 := k11.lst hR10 (En10.room hR10)
    have hrows11 := Dp.keepAll k11 _ _ rows_fz hrows10
    have hrow : Dp K (upd H10 t (.tup [.str nx, u])) (.ref t) (rowD nx d.data) := Dp.newT ht (.cons (.str _) (.cons hd10 .nil)) (by
      show (true && (fz _ && true)) = true
      rw [data_fz]
      rfl)
    refine ⟨lr, _, _, rfl, rfl, hr11, small1000 (by omega), ?_⟩
    have kput : Kp [lr] (upd H10 t (.tup [.str nx, u])) (upd (upd H10 t (.tup [.str nx, u])) lr (.lst (rs ++ [.ref t]))) := Kp.put hr11 List.mem_cons_self
    subst hlen
    refine ⟨n2, ss2, as ++ [d], rs ++ [.ref t], _, _, rfl, by rw [List.length_append]; rfl, (k6.trans (kk10.trans k11)).mut hlr0, En11.mut hr11 nlr nlra nlrw nlrs, by omega, kput.lst hn11 (not1 nlrn), kput.lst hR11 (not1 nlrr), upd_same, ?_, hdr.append hdr10⟩
    rw [zip_snoc hnx]
    exact (Dp.keepAll kput _ _ rows_fz hrows11).append (.one (Dp.keep kput _ _ (by show (true && (fz _ && true)) = true; rw [data_fz]; rfl) hrow))
  · rintro σ H6 ⟨n', ss', as, rs, v8, v9, rfl, hlen, k6, En6, hss, hn6, hR6, hr6, hrows, hdr⟩
    rw [List.length_map] at hlen hrows
    rw [List.take_length] at hrows
    -- the tuple of rows
    refine ⟨_, rfl, lr, _, rfl, .inl ⟨SqL.of hr6, fun t ht => ?_⟩⟩
    have k7 : Kp [p, c, st] H6 (upd H6 t (.tup rs)) := Kp.new ht
    have En7 := En6.new (o := .tup rs) ht
    have hd7 : Dp K (upd H6 t (.tup rs)) (.ref t) (.tuple (List.zipWith rowD nm (Lz.P.datas as))) := Dp.newT ht hrows rows_fz
    have hn7 := k7.lst hn6 nnl
    have hR7 := k7.lst hR6 (En6.room hR6)
    -- the inner part
    refine ⟨_, rfl, _, rfl, _, rfl, _, rfl, sl, nl, _, _, rfl, rfl, En7.scp, hn7, (by rw [List.length_map, List.length_map]; exact Nat.le_of_lt (small1000 (by omega))), fun q hq => ?_⟩
    have k9 : Kp [p, c, st] (upd H6 t (.tup rs)) (upd (upd H6 t (.tup rs)) q (.lst (sc.map V.str ++ nm.map V.str))) := Kp.new hq
    have En9 := (En7.new (o := .lst (sc.map V.str ++ nm.map V.str)) hq).scope (sc' := sc ++ nm) (q := q) (by rw [upd_same, List.map_append]) (En7.fresh hq) (fun x hx => (List.mem_append.mp hx).elim (En7.nc x) (hnms x)) (by rw [List.length_append]; omega)
    have hR9 := k9.lst hR7 (En7.room hR7)
    refine ⟨_, rfl, _, rfl, p, a, wl, q, r, c, st, want, W, sc ++ nm, ss', dp, n', rfl, En9, hR9, hdp0, hdpk, hwant, fun u d H10 n2 ss2 k10 pen10 hc10 hs10 hd10 hdr10 => ?_⟩
    have kk10 := k7.trans (k9.trans k10)
    have hd11 := Dp.keep (k9.trans k10) _ _ (by show fzAll _ = true; exact rows_fz) hd7
    refine ⟨(by show 3 ≤ sizeLine; decide), fun q2 hq2 => ?_⟩
    refine D _ (.lt nm as d) _ n2 ss2 ((k6.trans kk10).trans (Kp.new hq2)) (pen10.new hq2) (by rw [upd_ne (ne_of_none hc10 hq2)]; exact hc10) (by rw [upd_ne (ne_of_none hs10 hq2)]; exact hs10) ?_ ?_
    · refine Dp.newT hq2 (.cons (.str _) (.cons hd11 (.cons hd10 .nil))) ?_
      show (true && (fzAll _ && (fz _ && true))) = true
      rw [rows_fz, data_fz]
      rfl
    · have e1 : dp + 1 - 1 = dp := by omega
      refine .lt (k := kk) (by omega) (by omega) (by omega) (by rw [hnm, List.reverse_reverse]) (by omega) (by omega) (by omega) ?_ .nil
      rw [e1, hnml]
      exact hdr.append hdr10
end
end Lz

set_option Elab.async false
set_option linter.all false
set_option maxRecDepth 100000
set_option maxHeartbeats 8000000
namespace Lz
open PySem PySem.Spec PyProof.Rows L2
def wkv : List (Key × V) := putK (putK (mergeK [] [(Sum.inr "number", .str "op op op op op op when when side let call call call call leaf leaf")]) (Sum.inr "pair") (.str "pair pair pair pair when when side side let let call call call op leaf pair")) (Sum.inr "any") (.str "op op pair pair pair when when side side let let call call call leaf leaf")
def wordOk (x : Str) : Prop := x = "op" ∨ x = "when" ∨ x = "side" ∨ x = "let" ∨ x = "call" ∨ x = "leaf" ∨ x = "pair"
instance (x : Str) : Decidable (wordOk x) := by unfold wordOk; infer_instance
theorem want_text {x : Str} (h : wantOk x) : ∃ z : Str, valV wkv (Sum.inr x) = some (.str z) ∧ z.length + 2 ≤ sizeLine ∧ (Txt.split z " ").length = 16 ∧ ∀ x, x ∈ Txt.split z " " → wordOk x := by
  rcases h with rfl | rfl | rfl
  · exact ⟨"op op op op op op when when side let call call call call leaf leaf", by decide +kernel, by decide +kernel, by decide +kernel, by decide +kernel⟩
  · exact ⟨"pair pair pair pair when when side side let let call call call op leaf pair", by decide +kernel, by decide +kernel, by decide +kernel, by decide +kernel⟩
  · exact ⟨"op op pair pair pair when when side side let let call call call leaf leaf", by decide +kernel, by decide +kernel, by decide +kernel, by decide +kernel⟩
abbrev ckv : List (Key × V) := mergeK [] [(Sum.inr "side", .int 1), (Sum.inr "pair", .int 2), (Sum.inr "when", .int 3), (Sum.inr "op", .int 2)]
def costOf (x : Str) (m : Nat) : Prop := (x = "side" ∧ m = 1) ∨ (x = "pair" ∧ m = 2) ∨ (x = "when" ∧ m = 3) ∨ (x = "op" ∧ m = 2)
theorem cost_of {x : Str} {m : Nat} (h : costOf x m) : valV ckv (Sum.inr x) = some (.int m) := by
  rcases h with ⟨rfl, rfl⟩ | ⟨rfl, rfl⟩ | ⟨rfl, rfl⟩ | ⟨rfl, rfl⟩ <;> decide +kernel
abbrev okv (want : Str) : List (Key × V) := mergeK [] [(Sum.inr "pair", .str "any"), (Sum.inr "when", .str want), (Sum.inr "op", .str "number")]
theorem other_of {x want : Str} (h : wantOk want) (hx : x = "pair" ∨ x = "when" ∨ x = "op") : ∃ wt : Str, valV (okv want) (Sum.inr x) = some (.str wt) ∧ wantOk wt := by
  rcases h with rfl | rfl | rfl <;> rcases hx with rfl | rfl | rfl
  · exact ⟨"any", by decide +kernel, .inr (.inr rfl)⟩
  · exact ⟨"number", by decide +kernel, .inl rfl⟩
  · exact ⟨"number", by decide +kernel, .inl rfl⟩
  · exact ⟨"any", by decide +kernel, .inr (.inr rfl)⟩
  · exact ⟨"pair", by decide +kernel, .inr (.inl rfl)⟩
  · exact ⟨"number", by decide +kernel, .inl rfl⟩
  · exact ⟨"any", by decide +kernel, .inr (.inr rfl)⟩
  · exact ⟨"any", by decide +kernel, .inr (.inr rfl)⟩
  · exact ⟨"number", by decide +kernel, .inl rfl⟩
theorem str_of_decide {x y : Str} (c : decide (V.str x = V.str y) = true) : x = y := V.str.inj (of_decide_eq_true c)
theorem str_no_decide {x y : Str} (c : ¬ decide (V.str x = V.str y) = true) : x ≠ y := fun e => c (decide_eq_true (by rw [e]))
/-- a part of a kind -/
theorem op_dp {K : PySem.W.Frag} {H : Hp} {k : Str} {q : Addr} {vs : List V} {as : List Lz.P} (hq : H q = none) (h : DpAll K H vs (Lz.P.datas as)) : Dp K (upd H q (.tup (.str k :: vs))) (.ref q) (Lz.P.op k as).data := by
  refine Dp.newT hq (.cons (.str k) h) ?_
  show (true && fzAll (Lz.P.datas as)) = true
  rw [datas_fz]
  rfl
section
variable {P : Program} {w : World} {K : PySem.W.Frag} {mg : Str → Option Value} {base : Heap} {f : Addr} {fd : FuncData}
abbrev sLPart : Stmt := topS 23
theorem scLPart : FnScope ["_law_pen_here", "_law_world", "_law_scope", "_law_room", "_law_want", "_law_words", "_law_word", "_law_inner_here", "_law_one", "_law_other"] ["_law_pen_here", "_law_world", "_law_scope", "_law_room", "_law_want"] (defScope sLPart) := ⟨rfl, rfl, rfl, by decide +kernel, rfl, by decide +kernel, by decide +kernel⟩
theorem ok_part {k j : Nat} (hj : 3 ≤ j) (F : Fun K "_law_part" "_law_part" sLPart f fd) (B : Bt mg) (CLDraw : C8.Cal P w K mg base 1 "_law_draw" (spDraw K) []) (CLLeaf : C8.Cal P w K mg base 3 "_law_leaf" (spLeaf K) []) (CLFits : C8.Cal P w K mg base 1 "_law_fits" (spFits K) [])
    (CLPart : C8.Cal P w K mg base j "_law_part" (spPart K k) []) (CLCall : C8.Cal P w K mg base (j + 1) "_law_call" (spCall K k) []) (CLLet : C8.Cal P w K mg base (j + 1) "_law_let" (spLet K k) []) : FnOk P w K mg base CX0 (j + 2) f fd ["_law_pen_here", "_law_world", "_law_scope", "_law_room", "_law_want"] (spPart K (k + 1)) := by
  have mint := B.int
  refine F.ok scLPart (fun vs H Q E h => ?_) (fun cdv A outer s H vs Q E hr h => ?_)
  · obtain ⟨p, a, wl, sl, r, c, st, want, W, sc, ss, dp, n, rfl, _⟩ := h
    rfl
  have hu := hu_of hr
  have hu64 := hr.units
  obtain ⟨p, a, wl, sl, r, c, st, want, W, sc, ss, dp, n, rfl, En0, hR, hdp0, hdpk, hwant, D⟩ := h
  refine ⟨_, (pss_cons (ps_set (i := 5) scLPart.nd rfl (.inl rfl) (pe_disp (pps_cons pe_str pe_str pps_nil) rfl rfl (by intro q; cases q) (by decide)))
    (pss_cons (ps_dput hu (pv 5) pe_str pe_str rfl)
    (pss_cons (ps_dput hu (pv 5) pe_str pe_str rfl)
    (pss_cons (ps_set (i := 6) scLPart.nd rfl (.inl rfl) (pe_ix (ix_listK (K := K) rfl) (pe_split (pe_dget hu (pv 5) (pv 4) (fun _ _ => rfl)) pe_str) (C8.pe_c CLDraw hr (by first | decide | omega) (by rfl) (pa_cons (pv 0) (pa_cons pe_int pa_nil))) (fun _ _ => rfl)))
    (pss_cons (ps_set (i := 7) scLPart.nd rfl (.inl rfl) (pe_lst (pa_cons (pe_op op_sub (pe_ix (ix_listK (K := K) rfl) (pv 3) pe_int (fun _ _ => rfl)) pe_int) (pa_cons (pe_ix (ix_listK (K := K) rfl) (pv 3) pe_int (fun _ _ => rfl)) (pa_cons (pe_ix (ix_listK (K := K) rfl) (pv 3) pe_int (fun _ _ => rfl)) pa_nil)))))
    (pss_cons (ps_if (PW.pt (pw_or (pt_cmpR op_lt (pe_ix (ix_listK (K := K) rfl) (pv 3) pe_int (fun _ _ => rfl)) pe_int (nomark _)) (pw_or (pt_cmpR op_eq (pv 6) pe_str (nomark _)) (pw_or1 (PW.pt (pw_and (pt_cmpR op_eq (pv 6) pe_str (nomark _)) (pw_and1 (PW.pt (pw_or (pt_cmpR (op_eqDK (K := K) rfl hu64) (pv 1) (pe_lst pa_nil) (nomark _)) (pw_or1 (pt_cmpR op_lt (pe_ix (ix_listK (K := K) rfl) (pv 3) pe_int (fun _ _ => rfl)) pe_int (nomark _)))))))))))) (pss_one (ps_ret (C8.pe_c CLLeaf hr (by first | decide | omega) (by rfl) (pa_cons (pv 0) (pa_cons (pv 1) (pa_cons (pv 2) (pa_cons (pv 4) pa_nil))))))) pss_nil)
    (pss_cons (ps_if (pt_cmpR op_eq (pv 6) pe_str (nomark _)) (pss_one (ps_ret (C8.pe_c CLCall hr (by first | decide | omega) (by rfl) (pa_cons (pv 0) (pa_cons (pv 1) (pa_cons (pv 2) (pa_cons (pv 7) (pa_cons (pv 4) pa_nil)))))))) pss_nil)
    (pss_cons (ps_if (pt_cmpR op_eq (pv 6) pe_str (nomark _)) (pss_one (ps_ret (C8.pe_c CLLet hr (by first | decide | omega) (by rfl) (pa_cons (pv 0) (pa_cons (pv 1) (pa_cons (pv 2) (pa_cons (pv 7) (pa_cons (pv 4) pa_nil)))))))) pss_nil)
    (pss_cons (ps_if (pt_not (pt_truthK (K := K) rfl (C8.pe_c CLFits hr (by first | decide | omega) (by rfl) (pa_cons (pv 3) (pa_cons (pe_dget hu (pe_disp (pps_cons pe_str pe_int (pps_cons pe_str pe_int (pps_cons pe_str pe_int (pps_cons pe_str pe_int pps_nil)))) rfl rfl (by intro q; cases q) (by decide)) (pv 6) (fun _ _ => rfl)) pa_nil))) (fun _ => rfl))) (pss_one (ps_ret (C8.pe_c CLLeaf hr (by first | decide | omega) (by rfl) (pa_cons (pv 0) (pa_cons (pv 1) (pa_cons (pv 2) (pa_cons (pv 4) pa_nil))))))) pss_nil)
    (pss_cons (ps_if (pt_cmpR op_eq (pv 6) pe_str (nomark _)) (pss_one (ps_ret (pe_tup (pa_cons (pe_ix (ix_listK (K := K) rfl) (pe_lst (pa_cons pe_str (pa_cons pe_str pa_nil))) (C8.pe_c CLDraw hr (by first | decide | omega) (by rfl) (pa_cons (pv 0) (pa_cons pe_int pa_nil))) (fun _ _ => rfl)) (pa_cons (C8.pe_c CLPart hr (by first | decide | omega) (by rfl) (pa_cons (pv 0) (pa_cons (pv 1) (pa_cons (pv 2) (pa_cons (pv 7) (pa_cons pe_str pa_nil)))))) pa_nil))))) pss_nil)
    (pss_cons (ps_set (i := 8) scLPart.nd rfl (.inl rfl) (C8.pe_c CLPart hr (by first | decide | omega) (by rfl) (pa_cons (pv 0) (pa_cons (pv 1) (pa_cons (pv 2) (pa_cons (pv 7) (pa_cons (pe_ix (ix_listK (K := K) rfl) (pe_lst (pa_cons pe_str (pa_cons pe_str pa_nil))) (pe_callTy call_int1 (by rfl) mint (by decide +kernel) (pa_cons (pe_cmpR op_eq (pv 6) pe_str (nomark _)) pa_nil)) (fun _ _ => rfl)) pa_nil)))))))
    (pss_cons (ps_set (i := 9) scLPart.nd rfl (.inl rfl) (C8.pe_c CLPart hr (by first | decide | omega) (by rfl) (pa_cons (pv 0) (pa_cons (pv 1) (pa_cons (pv 2) (pa_cons (pv 7) (pa_cons (pe_dget hu (pe_disp (pps_cons pe_str pe_str (pps_cons pe_str (pv 4) (pps_cons pe_str pe_str pps_nil))) rfl rfl (by intro q; cases q) (by decide)) (pv 6) (fun _ _ => rfl)) pa_nil)))))))
    (pss_cons (ps_if (pt_cmpR op_eq (pv 6) pe_str (nomark _)) (pss_one (ps_ret (pe_tup (pa_cons pe_str (pa_cons (pv 8) (pa_cons (pv 9) pa_nil)))))) pss_nil)
    (pss_cons (ps_if (pt_cmpR op_eq (pv 6) pe_str (nomark _)) (pss_one (ps_ret (pe_tup (pa_cons pe_str (pa_cons (pv 8) (pa_cons (pv 9) (pa_cons (C8.pe_c CLPart hr (by first | decide | omega) (by rfl) (pa_cons (pv 0) (pa_cons (pv 1) (pa_cons (pv 2) (pa_cons (pv 7) (pa_cons (pv 4) pa_nil)))))) pa_nil))))))) pss_nil)
    (pss_one (ps_ret (pe_tup (pa_cons (pe_ix (ix_listK (K := K) rfl) (pe_lst (pa_cons pe_str (pa_cons pe_str (pa_cons pe_str (pa_cons pe_str pa_nil))))) (C8.pe_c CLDraw hr (by first | decide | omega) (by rfl) (pa_cons (pv 0) (pa_cons pe_int pa_nil))) (fun _ _ => rfl)) (pa_cons (pv 8) (pa_cons (pv 9) pa_nil)))))))))))))))))))), ?_⟩
  -- the words
  refine fun d hd => ⟨upd_same, [(Sum.inr _, .str _)], rfl, by decide, ?_⟩
  refine ⟨_, rfl, d, _, rfl, DPut.k (k := Sum.inr _) upd_same (by decide +kernel), ?_⟩
  refine ⟨_, rfl, d, _, rfl, DPut.k (k := Sum.inr _) upd_same (by decide +kernel), ?_⟩
  have ew : upd (upd (upd (upd H d (.dK [])) d (.dK (mergeK [] [(Sum.inr "number", .str "op op op op op op when when side let call call call call leaf leaf")]))) d (.dK (putK (mergeK [] [(Sum.inr "number", .str "op op op op op op when when side let call call call call leaf leaf")]) (Sum.inr "pair") (.str "pair pair pair pair when when side side let let call call call op leaf pair")))) d (.dK wkv) = upd H d (.dK wkv) := by
    rw [upd_upd, upd_upd, upd_upd]
  show tSeq _ _ _ _ (upd (upd (upd (upd H d (.dK [])) d (.dK (mergeK [] [(Sum.inr "number", .str "op op op op op op when when side let call call call call leaf leaf")]))) d (.dK (putK (mergeK [] [(Sum.inr "number", .str "op op op op op op when when side let call call call call leaf leaf")]) (Sum.inr "pair") (.str "pair pair pair pair when when side side let let call call call op leaf pair")))) d (.dK wkv))
  rw [ew]
  have En1 := En0.new (o := .dK wkv) hd
  have k1 : Kp [p, c, st] H (upd H d (.dK wkv)) := Kp.new hd
  have hR1 : (upd H d (.dK wkv)) r = some (.lst [.int dp, .ref c, .ref st]) := by rw [upd_ne (ne_of_none hR hd)]; exact hR
  have hd1 : (upd H d (.dK wkv)) d = some (.dK wkv) := upd_same
  generalize upd H d (.dK wkv) = H1 at En1 k1 hR1 hd1 ⊢
  -- the word
  obtain ⟨z, hz, hzl, hz16, hzw⟩ := want_text hwant
  refine ⟨_, rfl, _, rfl, d, _, rfl, (by have := DGet.k (k := Sum.inr want) hd1; rw [hz] at this; exact this), ⟨_, rfl⟩, _, _, rfl, rfl, (by decide +kernel), hzl, fun l hl => ?_⟩
  have En2 := En1.new (o := .lst ((Txt.split z " ").map V.str)) hl
  have nl2 := En1.fresh hl
  have k2 : Kp [p, c, st] H1 (upd H1 l (.lst ((Txt.split z " ").map V.str))) := Kp.new hl
  have hl2 : (upd H1 l (.lst ((Txt.split z " ").map V.str))) l = some (.lst ((Txt.split z " ").map V.str)) := upd_same
  have hR2 := k2.lst hR1 (En1.room hR1)
  refine ⟨_, rfl, p, a, 16, rfl, En2.pen, (by decide), (by decide), fun g H3 k3 pen3 g0 g1 => ?_⟩
  have k3' := k3.mono (T := [p, c, st]) sub3
  have En3 := En2.same k3 pen3
  have hl3 := k3'.lst hl2 nl2
  have hR3 := k3'.lst hR2 (En2.room hR2)
  have hg : g.toNat < (Txt.split z " ").length := by rw [hz16]; omega
  obtain ⟨x, hx, hxw⟩ : ∃ x : Str, ((Txt.split z " ").map V.str)[g.toNat]? = some (.str x) ∧ wordOk x :=
    ⟨(Txt.split z " ")[g.toNat], by rw [List.getElem?_map, List.getElem?_eq_getElem hg]; rfl, hzw _ (List.getElem_mem hg)⟩
  refine ⟨l, _, _, _, rfl, rfl, SqL.of hl3, at_of (j := g.toNat) (by omega) hx, ?_⟩
  have kk3 := k1.trans (k2.trans k3')
  clear k1 k2 k3 k3' En1 En2 hd1 hl2 hl3 hR1 hR2 nl2 pen3 hd hl
  -- the room within
  refine ⟨_, rfl, r, _, _, _, rfl, rfl, SqL.of hR3, at_of (j := 0) rfl rfl, _, _, rfl, rfl, _, rfl, r, _, _, _, rfl, rfl, SqL.of hR3, at_of (j := 1) rfl rfl, _, rfl, r, _, _, _, rfl, rfl, SqL.of hR3, at_of (j := 2) rfl rfl, (by show 3 ≤ sizeLine; decide), fun r2 hr2 => ?_⟩
  have En4 := En3.new (o := .lst [.int (dp - 1), .ref c, .ref st]) hr2
  have kk4 : Kp [p, c, st] H (upd H3 r2 (.lst [.int (dp - 1), .ref c, .ref st])) := kk3.trans (Kp.new hr2)
  have hRR : (upd H3 r2 (.lst [.int (dp - 1), .ref c, .ref st])) r2 = some (.lst [.int (dp - 1), .ref c, .ref st]) := upd_same
  have hR4 : (upd H3 r2 (.lst [.int (dp - 1), .ref c, .ref st])) r = some (.lst [.int dp, .ref c, .ref st]) := by rw [upd_ne (ne_of_none hR3 hr2)]; exact hR3
  generalize upd H3 r2 (.lst [.int (dp - 1), .ref c, .ref st]) = H4 at En4 kk4 hRR hR4 ⊢
  clear kk3 En3 hR3 hr2 En0 hR
  have leaf : ∀ H5 : Hp, Kp [p, c, st] H4 H5 → En K H5 W sc p a wl sl c st n ss → spLeaf K [.ref p, .ref wl, .ref sl, .str want] H5 Q C8.E0 := fun H5 k5 En5 =>
    leaf_of (dp := dp) En5 fun v d H' n' ss' kk => D v d H' n' ss' (kk4.trans (k5.trans kk))
  -- a leaf?
  refine ⟨_, rfl, r, _, _, _, rfl, rfl, SqL.of hR4, at_of (j := 0) rfl rfl, _, _, rfl, rfl, _, rfl, ?_⟩
  refine ite2 (fun c1 => ⟨_, rfl, _, rfl, _, rfl, _, rfl, leaf _ (Kp.refl _ _) En4⟩) (fun c1 => ?_)
  have hdp1 : 1 ≤ dp := by
    have : ¬ dp < 1 := of_decide_eq_false (Bool.eq_false_iff.mpr c1)
    omega
  refine ⟨_, rfl, rfl, _, rfl, ?_⟩
  refine ite2 (fun c2 => ⟨_, rfl, _, rfl, _, rfl, _, rfl, leaf _ (Kp.refl _ _) En4⟩) (fun c2 => ?_)
  have ne2 := str_no_decide c2
  refine ⟨_, rfl, rfl, _, rfl, ?_⟩
  refine ite2 (fun c3 => ?_) (fun c3 => ?_)
  · -- a call
    obtain rfl := str_of_decide c3
    refine ⟨_, rfl, Nat.zero_le _, fun l hl => ?_⟩
    have En5 := En4.new (o := .lst []) hl
    have k5 : Kp [p, c, st] H4 (upd H4 l (.lst [])) := Kp.new hl
    have hR5 := k5.lst hR4 (En4.room hR4)
    have hRR5 := k5.lst hRR (En4.room hRR)
    refine ⟨_, _, En5.wld.dp, nil_dp, wds_shaped (fun f m => (En5.nw f m).1), nil_shaped, _, rfl, ?_⟩
    rw [eqv_nil]
    generalize upd H4 l (.lst []) = H5 at En5 k5 hR5 hRR5 ⊢
    refine ite2 (fun c4 => ⟨_, rfl, _, rfl, _, rfl, _, rfl, leaf _ k5 En5⟩) (fun c4 => ?_)
    have hW0 : W ≠ [] := fun e => c4 (by rw [e]; rfl)
    refine ⟨_, rfl, r, _, _, _, rfl, rfl, SqL.of hR5, at_of (j := 0) rfl rfl, _, _, rfl, rfl, _, rfl, ?_⟩
    refine ite2 (fun c5 => ⟨_, rfl, _, rfl, _, rfl, _, rfl, leaf _ k5 En5⟩) (fun c5 => ?_)
    have hdp6 : 6 ≤ dp := by
      have : ¬ dp < 6 := of_decide_eq_false (Bool.eq_false_iff.mpr c5)
      omega
    refine ⟨_, rfl, rfl, _, rfl, ?_⟩
    refine ite2 (fun _ => ?_) (fun c6 => absurd (decide_eq_true rfl) c6)
    refine ⟨_, rfl, _, rfl, _, rfl, _, rfl, _, rfl, p, a, wl, sl, r2, c, st, want, W, sc, ss, dp - 1, n, rfl, En5, hRR5, (by omega), (by omega), hW0, hwant, fun v d H' n' ss' kk pen hc hs hd hdr => ?_⟩
    rw [show dp - 1 + 1 = dp by omega] at hdr
    exact D v d H' n' ss' (kk4.trans (k5.trans kk)) pen hc hs hd hdr
  have n3 := str_no_decide c3
  refine ⟨_, rfl, rfl, _, rfl, ?_⟩
  refine ite2 (fun c4 => absurd c4 c3) (fun _ => ?_)
  refine ⟨_, rfl, rfl, _, rfl, ?_⟩
  refine ite2 (fun c4 => ?_) (fun c4 => ?_)
  · refine ⟨_, rfl, _, rfl, _, rfl, _, rfl, _, rfl, p, a, wl, sl, r2, c, st, want, W, sc, ss, dp - 1, n, rfl, En4, hRR, (by omega), (by omega), hwant, fun v d H' n' ss' kk pen hc hs hd hdr => ?_⟩
    rw [show dp - 1 + 1 = dp by omega] at hdr
    exact D v d H' n' ss' (kk4.trans kk) pen hc hs hd hdr
  have n4 := str_no_decide c4
  obtain ⟨m, hm⟩ : ∃ m, costOf x m := by
    rcases hxw with e | e | e | e | e | e | e
    · exact ⟨2, .inr (.inr (.inr ⟨e, rfl⟩))⟩
    · exact ⟨3, .inr (.inr (.inl ⟨e, rfl⟩))⟩
    · exact ⟨1, .inl ⟨e, rfl⟩⟩
    · exact absurd e n4
    · exact absurd e n3
    · exact absurd e ne2
    · exact ⟨2, .inr (.inl ⟨e, rfl⟩)⟩
  -- does it fit
  refine ⟨_, rfl, fun dd hdd => ⟨upd_same, [(Sum.inr _, .int _), (Sum.inr _, .int _), (Sum.inr _, .int _), (Sum.inr _, .int _)], rfl, by decide, ?_⟩⟩
  have En5 : En K (upd (upd H4 dd (.dK [])) dd (.dK ckv)) W sc p a wl sl c st n ss := by rw [upd_upd]; exact En4.new hdd
  have kk5 : Kp [p, c, st] H4 (upd (upd H4 dd (.dK [])) dd (.dK ckv)) := by rw [upd_upd]; exact Kp.new hdd
  have hR5 := kk5.lst hR4 (En4.room hR4)
  have hRR5 := kk5.lst hRR (En4.room hRR)
  refine ⟨_, rfl, dd, _, rfl, (by have := DGet.k (H := upd (upd H4 dd (.dK [])) dd (.dK ckv)) (k := Sum.inr x) upd_same; rw [cost_of hm] at this; exact this), ?_⟩
  generalize upd (upd H4 dd (.dK [])) dd (.dK ckv) = H5 at En5 kk5 hR5 hRR5 ⊢
  refine ⟨r, c, _, _, n, _, rfl, hR5, En5.cnt, fun hlt => ⟨false, rfl, ⟨_, rfl, _, rfl, _, rfl, _, rfl, leaf _ kk5 En5⟩⟩, fun hle => ⟨true, rfl, ?_⟩⟩
  have En6 := En5.less (m := n - m)
  have k6 : Kp [p, c, st] H (upd H5 c (.lst [.int (n - m)])) := kk4.trans (kk5.trans (Kp.put En5.cnt mem3.2.1))
  have hRR6 : (upd H5 c (.lst [.int (n - m)])) r2 = some (.lst [.int (dp - 1), .ref c, .ref st]) := by
    rw [upd_ne (fun e => En5.room hRR5 (by rw [e]; exact mem3.2.1))]
    exact hRR5
  generalize upd H5 c (.lst [.int (n - m)]) = H6 at En6 k6 hRR6 ⊢
  clear En5 kk5 hR5 hRR5 leaf En4 kk4 hRR hR4
  -- a side
  refine ⟨_, rfl, rfl, _, rfl, ?_⟩
  refine ite2 (fun c5 => ?_) (fun c5 => ?_)
  · obtain rfl := str_of_decide c5
    obtain rfl : m = 1 := by
      rcases hm with h | h | h | h
      · exact h.2
      · exact absurd h.1 (by decide +kernel)
      · exact absurd h.1 (by decide +kernel)
      · exact absurd h.1 (by decide +kernel)
    refine ⟨(by show 2 ≤ sizeLine; decide), fun l hl => ?_⟩
    have En7 := En6.new (o := .lst [.str "left", .str "right"]) hl
    have nl := En6.fresh hl
    have k7 : Kp [p, c, st] H6 (upd H6 l (.lst [.str "left", .str "right"])) := Kp.new hl
    have hl7 : (upd H6 l (.lst [.str "left", .str "right"])) l = some (.lst [.str "left", .str "right"]) := upd_same
    have hRR7 := k7.lst hRR6 (En6.room hRR6)
    refine ⟨_, rfl, p, a, 2, rfl, En7.pen, (by decide), (by decide), fun g H8 k8 pen8 g0 g1 => ?_⟩
    have k8' := k8.mono (T := [p, c, st]) sub3
    have En8 := En7.same k8 pen8
    have hl8 := k8'.lst hl7 nl
    have hRR8 := k8'.lst hRR7 (En7.room hRR7)
    obtain ⟨kd, hkd, hkd'⟩ : ∃ kd : Str, ([.str "left", .str "right"] : List V)[g.toNat]? = some (.str kd) ∧ (kd, 1) ∈ kinds := by
      have h0 : g.toNat < 2 := by omega
      generalize g.toNat = j at h0
      match j, h0 with
      | 0, _ => exact ⟨_, rfl, by decide +kernel⟩
      | 1, _ => exact ⟨_, rfl, by decide +kernel⟩
    refine ⟨l, _, _, _, rfl, rfl, SqL.of hl8, at_of (j := g.toNat) (by omega) hkd, ?_⟩
    refine ⟨_, rfl, _, rfl, _, rfl, _, rfl, p, a, wl, sl, r2, c, st, "pair", W, sc, ss, dp - 1, n - 1, rfl, En8, hRR8, (by omega), (by omega), .inr (.inl rfl), fun u d H9 n' ss' k9 pen9 hc9 hs9 hd9 hdr9 => ?_⟩
    refine ⟨(by show 2 ≤ sizeLine; decide), fun q hq => ?_⟩
    exact D _ (.op kd [d]) _ n' ss' ((k6.trans (k7.trans (k8'.trans k9))).trans (Kp.new hq)) (pen9.new hq) (by rw [upd_ne (ne_of_none hc9 hq)]; exact hc9) (by rw [upd_ne (ne_of_none hs9 hq)]; exact hs9) (op_dp hq (.cons hd9 .nil))
      (.op hkd' hdp1 hle hdr9 .nil)
  have n5 := str_no_decide c5
  have hx3 : x = "pair" ∨ x = "when" ∨ x = "op" := by
    rcases hm with h | h | h | h
    · exact absurd h.1 n5
    · exact .inl h.1
    · exact .inr (.inl h.1)
    · exact .inr (.inr h.1)
  -- one
  refine ⟨_, rfl, _, rfl, _, rfl, _, rfl, (by show 2 ≤ sizeLine; decide), fun l hl => ?_⟩
  have En7 := En6.new (o := .lst [.str "number", .str "any"]) hl
  have k7 : Kp [p, c, st] H6 (upd H6 l (.lst [.str "number", .str "any"])) := Kp.new hl
  have hl7 : (upd H6 l (.lst [.str "number", .str "any"])) l = some (.lst [.str "number", .str "any"]) := upd_same
  have hRR7 := k7.lst hRR6 (En6.room hRR6)
  refine ⟨_, rfl, rfl, .inr ⟨_, rfl, ?_⟩⟩
  obtain ⟨wt, hwt, hwt'⟩ : ∃ wt : Str, atI ([.str "number", .str "any"] : List V) (if decide (V.str x = V.str "pair") = true then 1 else 0) = some (.str wt) ∧ wantOk wt := by
    by_cases e : decide (V.str x = V.str "pair") = true
    · rw [if_pos e]
      exact ⟨_, rfl, .inr (.inr rfl)⟩
    · rw [if_neg e]
      exact ⟨_, rfl, .inl rfl⟩
  refine ⟨l, _, _, _, rfl, rfl, SqL.of hl7, hwt, ?_⟩
  refine ⟨p, a, wl, sl, r2, c, st, wt, W, sc, ss, dp - 1, n - m, rfl, En7, hRR7, (by omega), (by omega), hwt', fun u d H8 n1 ss1 k8 pen8 hc8 hs8 hd8 hdr8 => ?_⟩
  have En8 := En7.step k8 pen8 hc8 hs8 hdr8.sub hdr8.len
  have hRR8 := k8.lst hRR7 (En7.room hRR7)
  have kk8 := k6.trans (k7.trans k8)
  clear k7 k8 En6 En7 hl7 hl hRR6 hRR7 k6
  -- other
  refine ⟨_, rfl, _, rfl, _, rfl, _, rfl, fun d2 hd2 => ⟨_, rfl, upd_same, [(Sum.inr _, .str _), (Sum.inr _, .str _), (Sum.inr _, .str _)], rfl, (by show 3 ≤ 15; decide), ?_⟩⟩
  obtain ⟨wu, hwu, hwu'⟩ := other_of hwant hx3
  have En9 : En K (upd (upd H8 d2 (.dK [])) d2 (.dK (okv want))) W sc p a wl sl c st n1 ss1 := by rw [upd_upd]; exact En8.new hd2
  have k9 : Kp [p, c, st] H8 (upd (upd H8 d2 (.dK [])) d2 (.dK (okv want))) := by rw [upd_upd]; exact Kp.new hd2
  have hRR9 := k9.lst hRR8 (En8.room hRR8)
  have hd9 := Dp.keep k9 _ _ (data_fz _) hd8
  refine ⟨_, rfl, d2, _, rfl, (by have := DGet.k (H := upd (upd H8 d2 (.dK [])) d2 (.dK (okv want))) (k := Sum.inr x) upd_same; rw [hwu] at this; exact this), ?_⟩
  generalize upd (upd H8 d2 (.dK [])) d2 (.dK (okv want)) = H9 at En9 k9 hRR9 hd9 ⊢
  refine ⟨p, a, wl, sl, r2, c, st, wu, W, sc, ss1, dp - 1, n1, rfl, En9, hRR9, (by omega), (by omega), hwu', fun u2 e H10 n2 ss2 k10 pen10 hc10 hs10 hd10 hdr10 => ?_⟩
  have En10 := En9.step k10 pen10 hc10 hs10 hdr10.sub hdr10.len
  have hRR10 := k10.lst hRR9 (En9.room hRR9)
  have kk10 := kk8.trans (k9.trans k10)
  have hd11 := Dp.keep k10 _ _ (data_fz _) hd9
  have hdr := hdr8.append hdr10
  clear k9 k10 En8 En9 hRR8 hRR9 hd8 hd9 kk8 hd2
  -- a pair
  refine ⟨_, rfl, rfl, _, rfl, ?_⟩
  refine ite2 (fun c6 => ?_) (fun c6 => ?_)
  · obtain rfl := str_of_decide c6
    obtain rfl : m = 2 := by
      rcases hm with h | h | h | h
      · exact absurd h.1 (by decide +kernel)
      · exact h.2
      · exact absurd h.1 (by decide +kernel)
      · exact absurd h.1 (by decide +kernel)
    refine ⟨_, rfl, _, rfl, (by show 3 ≤ sizeLine; decide), fun q hq => ?_⟩
    exact D _ (.op "pair" [d, e]) _ n2 ss2 (kk10.trans (Kp.new hq)) (pen10.new hq) (by rw [upd_ne (ne_of_none hc10 hq)]; exact hc10) (by rw [upd_ne (ne_of_none hs10 hq)]; exact hs10) (op_dp hq (.cons hd11 (.cons hd10 .nil)))
      (.op (by show (("pair" : Str), 2) ∈ kinds; decide +kernel) hdp1 hle hdr .nil)
  have n6 := str_no_decide c6
  refine ⟨_, rfl, rfl, _, rfl, ?_⟩
  refine ite2 (fun c7 => ?_) (fun c7 => ?_)
  · obtain rfl := str_of_decide c7
    obtain rfl : m = 3 := by
      rcases hm with h | h | h | h
      · exact absurd h.1 (by decide +kernel)
      · exact absurd h.1 (by decide +kernel)
      · exact h.2
      · exact absurd h.1 (by decide +kernel)
    refine ⟨_, rfl, _, rfl, _, rfl, _, rfl, _, rfl, _, rfl, _, rfl, p, a, wl, sl, r2, c, st, want, W, sc, ss2, dp - 1, n2, rfl, En10, hRR10, (by omega), (by omega), hwant, fun u3 g H11 n3 ss3 k11 pen11 hc11 hs11 hd12 hdr12 => ?_⟩
    refine ⟨(by show 4 ≤ sizeLine; decide), fun q hq => ?_⟩
    have hda := Dp.keep k11 _ _ (data_fz _) hd11
    have hdb := Dp.keep k11 _ _ (data_fz _) hd10
    exact D _ (.op "when" [d, e, g]) _ n3 ss3 ((kk10.trans k11).trans (Kp.new hq)) (pen11.new hq) (by rw [upd_ne (ne_of_none hc11 hq)]; exact hc11) (by rw [upd_ne (ne_of_none hs11 hq)]; exact hs11) (op_dp hq (.cons hda (.cons hdb (.cons hd12 .nil))))
      (.op (by show (("when" : Str), 3) ∈ kinds; decide +kernel) hdp1 hle (hdr.append hdr12) .nil)
  have n7 := str_no_decide c7
  obtain rfl : m = 2 := by
    rcases hm with h | h | h | h
    · exact absurd h.1 n5
    · exact absurd h.1 n6
    · exact absurd h.1 n7
    · exact h.2
  -- an operation
  refine ⟨(by show 4 ≤ sizeLine; decide), fun l hl => ?_⟩
  have En11 := En10.new (o := .lst [.str "plus", .str "less", .str "times", .str "below"]) hl
  have nl := En10.fresh hl
  have k11 : Kp [p, c, st] H10 (upd H10 l (.lst [.str "plus", .str "less", .str "times", .str "below"])) := Kp.new hl
  have hl11 : (upd H10 l (.lst [.str "plus", .str "less", .str "times", .str "below"])) l = some (.lst [.str "plus", .str "less", .str "times", .str "below"]) := upd_same
  refine ⟨_, rfl, p, a, 4, rfl, En11.pen, (by decide), (by decide), fun g H12 k12 pen12 g0 g1 => ?_⟩
  have k12' := k12.mono (T := [p, c, st]) sub3
  have En12 := En11.same k12 pen12
  have hl12 := k12'.lst hl11 nl
  obtain ⟨kd, hkd, hkd'⟩ : ∃ kd : Str, ([.str "plus", .str "less", .str "times", .str "below"] : List V)[g.toNat]? = some (.str kd) ∧ (kd, 2) ∈ kinds := by
    have h0 : g.toNat < 4 := by omega
    generalize g.toNat = j at h0
    match j, h0 with
    | 0, _ => exact ⟨_, rfl, by decide +kernel⟩
    | 1, _ => exact ⟨_, rfl, by decide +kernel⟩
    | 2, _ => exact ⟨_, rfl, by decide +kernel⟩
    | 3, _ => exact ⟨_, rfl, by decide +kernel⟩
  refine ⟨l, _, _, _, rfl, rfl, SqL.of hl12, at_of (j := g.toNat) (by omega) hkd, _, rfl, _, rfl, (by show 3 ≤ sizeLine; decide), fun q hq => ?_⟩
  have k13 := k11.trans k12'
  have hda := Dp.keep k13 _ _ (data_fz _) hd11
  have hdb := Dp.keep k13 _ _ (data_fz _) hd10
  have hc12 := En12.cnt
  have hs12 := En12.stk
  exact D _ (.op kd [d, e]) _ n2 ss2 ((kk10.trans k13).trans (Kp.new hq)) (En12.pen.new hq) (by rw [upd_ne (ne_of_none hc12 hq)]; exact hc12) (by rw [upd_ne (ne_of_none hs12 hq)]; exact hs12) (op_dp hq (.cons hda (.cons hdb .nil)))
    (.op hkd' hdp1 hle hdr .nil)
end
end Lz

set_option Elab.async false
set_option linter.all false
set_option maxRecDepth 100000
set_option maxHeartbeats 8000000
namespace Lz
open PySem PySem.Spec PyProof.Rows L2
theorem cut_1 (x : V) (xs : List V) : cutV (x :: xs) (some 1) none = xs := by
  unfold cutV
  rw [HT.sIx_none, show HT.sIx (x :: xs).length 0 (some 1) = min 1 (x :: xs).length from HT.sIx_nat _ _ 1]
  have e : min 1 (x :: xs).length = 1 := by rw [List.length_cons]; omega
  rw [e]
  exact List.take_of_length_le (by show xs.length ≤ (x :: xs).length - 1; rw [List.length_cons]; omega)
def spLoop (K : PySem.W.Frag) : Sp := fun vs H Q _ => ∃ (p a wl tl r c st : Addr) (me t0 : Str) (W : List (Str × Int)) (ts ss : List Str) (dp n : Int), vs = [.ref p, .ref wl, .str me, .ref tl, .ref r] ∧
  En K H W (t0 :: ts) p a wl tl c st n ss ∧ H r = some (.lst [.int dp, .ref c, .ref st]) ∧ ts.length ≤ 3 ∧
  ∀ (v : V) (d : Lz.P) (H' : Hp), Kp [p, c, st] H H' → PenAt H' p a → Dp K H' v d.data → Lp W me t0 ts n ss d → Q v H'
section
variable {P : Program} {w : World} {K : PySem.W.Frag} {mg : Str → Option Value} {base : Heap} {f : Addr} {fd : FuncData}
abbrev sLLoop : Stmt := topS 24
theorem scLLoop : FnScope ["_law_pen_here", "_law_world", "_law_me", "_law_things", "_law_room", "_law_call_here", "_law_name", "_law_other", "_law_one", "_law_more"] ["_law_pen_here", "_law_world", "_law_me", "_law_things", "_law_room"] (defScope sLLoop) := ⟨rfl, rfl, rfl, by decide +kernel, rfl, by decide +kernel, by decide +kernel⟩
theorem ok_loop {k j : Nat} (hk : 4 ≤ k) (hj : 3 ≤ j) (F : Fun K "_law_loop" "_law_loop" sLLoop f fd) (B : Bt mg) (CLDraw : C8.Cal P w K mg base 1 "_law_draw" (spDraw K) [])
    (CLPart : C8.Cal P w K mg base j "_law_part" (spPart K k) []) : FnOk P w K mg base CX0 (j + 1) f fd ["_law_pen_here", "_law_world", "_law_me", "_law_things", "_law_room"] (spLoop K) := by
  refine F.ok scLLoop (fun vs H Q E h => ?_) (fun cdv A outer s H vs Q E hr h => ?_)
  · obtain ⟨p, a, wl, tl, r, c, st, me, t0, W, ts, ss, dp, n, rfl, _⟩ := h
    rfl
  obtain ⟨p, a, wl, tl, r, c, st, me, t0, W, ts, ss, dp, n, rfl, En0, hR, hts, D⟩ := h
  refine ⟨_, (pss_cons (ps_set (i := 5) scLLoop.nd rfl (.inl rfl) (pe_tup (pa_cons pe_str (pa_cons (pe_tup (pa_cons pe_str (pa_cons (pv 2) pa_nil))) (pa_cons (pe_tup (pa_cons pe_str (pa_cons (pe_tup (pa_cons pe_str (pa_cons (pe_ix (ix_listK (K := K) rfl) (pv 3) pe_int (fun _ _ => rfl)) pa_nil))) (pa_cons (pe_tup (pa_cons pe_str (pa_cons pe_int pa_nil))) pa_nil)))) pa_nil)))))
    (pss_cons (ps_for PassesOwn.never rfl (pi_listK (K := K) rfl (pe_slice (sl_listK (K := K) rfl) (pv 3) (po_some pe_int) po_none)) (pg_name (i := 6) scLLoop.nd rfl (.inl rfl)) (pss_cons (ps_set (i := 7) scLLoop.nd rfl (.inl rfl) (C8.pe_c CLPart hr (by first | decide | omega) (by rfl) (pa_cons (pv 0) (pa_cons (pv 1) (pa_cons (pv 3) (pa_cons (pe_lst (pa_cons pe_int (pa_cons (pe_ix (ix_listK (K := K) rfl) (pv 4) pe_int (fun _ _ => rfl)) (pa_cons (pe_ix (ix_listK (K := K) rfl) (pv 4) pe_int (fun _ _ => rfl)) pa_nil)))) (pa_cons pe_str pa_nil)))))))
    (pss_one (ps_set (i := 5) scLLoop.nd rfl (.inl rfl) (pe_tup (pa_cons pe_str (pa_cons (pv 5) (pa_cons (pe_ix (ix_listK (K := K) rfl) (pe_lst (pa_cons (pe_tup (pa_cons pe_str (pa_cons (pv 6) pa_nil))) (pa_cons (pv 7) pa_nil))) (C8.pe_c CLDraw hr (by first | decide | omega) (by rfl) (pa_cons (pv 0) (pa_cons pe_int pa_nil))) (fun _ _ => rfl)) pa_nil))))))))
    (pss_cons (ps_set (i := 8) scLLoop.nd rfl (.inl rfl) (C8.pe_c CLPart hr (by first | decide | omega) (by rfl) (pa_cons (pv 0) (pa_cons (pv 1) (pa_cons (pv 3) (pa_cons (pe_lst (pa_cons pe_int (pa_cons (pe_ix (ix_listK (K := K) rfl) (pv 4) pe_int (fun _ _ => rfl)) (pa_cons (pe_ix (ix_listK (K := K) rfl) (pv 4) pe_int (fun _ _ => rfl)) pa_nil)))) (pa_cons pe_str pa_nil)))))))
    (pss_cons (ps_set (i := 9) scLLoop.nd rfl (.inl rfl) (pe_ix (ix_listK (K := K) rfl) (pe_lst (pa_cons (pv 5) (pa_cons (pe_tup (pa_cons pe_str (pa_cons (pv 8) (pa_cons (pv 5) pa_nil)))) (pa_cons (pe_tup (pa_cons pe_str (pa_cons (pv 8) (pa_cons (pv 5) pa_nil)))) (pa_cons (pe_tup (pa_cons pe_str (pa_cons (pv 5) (pa_cons (pv 8) pa_nil)))) pa_nil))))) (C8.pe_c CLDraw hr (by first | decide | omega) (by rfl) (pa_cons (pv 0) (pa_cons pe_int pa_nil))) (fun _ _ => rfl)))
    (pss_one (ps_ret (pe_tup (pa_cons pe_str (pa_cons (pe_tup (pa_cons pe_str (pa_cons (pe_ix (ix_listK (K := K) rfl) (pv 3) pe_int (fun _ _ => rfl)) pa_nil))) (pa_cons (pv 9) (pa_cons (C8.pe_c CLPart hr (by first | decide | omega) (by rfl) (pa_cons (pv 0) (pa_cons (pv 1) (pa_cons (pv 3) (pa_cons (pe_lst (pa_cons pe_int (pa_cons (pe_ix (ix_listK (K := K) rfl) (pv 4) pe_int (fun _ _ => rfl)) (pa_cons (pe_ix (ix_listK (K := K) rfl) (pv 4) pe_int (fun _ _ => rfl)) pa_nil)))) (pa_cons pe_str pa_nil)))))) pa_nil))))))))))), ?_⟩
  -- the call, its first thing
  refine ⟨_, rfl, (by show 2 ≤ sizeLine; decide), fun q1 hq1 => ?_⟩
  have En1 := En0.new (o := .tup [.str "fun", .str me]) hq1
  have hd1 : Dp K (upd H q1 (.tup [.str "fun", .str me])) (.ref q1) (Lz.P.fn me).data := Dp.newT hq1 (.cons (.str _) (.cons (.str _) .nil)) rfl
  have k1 : Kp [p, c, st] H (upd H q1 (.tup [.str "fun", .str me])) := Kp.new hq1
  generalize upd H q1 (.tup [.str "fun", .str me]) = H1 at En1 hd1 k1 ⊢
  refine ⟨_, rfl, tl, _, _, _, rfl, rfl, SqL.of En1.scp, at_of (j := 0) rfl rfl, (by show 2 ≤ sizeLine; decide), fun q2 hq2 => ?_⟩
  have En2 := En1.new (o := .tup [.str "name", .str t0]) hq2
  have hd2 : Dp K (upd H1 q2 (.tup [.str "name", .str t0])) (.ref q2) (Lz.P.nam t0).data := Dp.newT hq2 (.cons (.str _) (.cons (.str _) .nil)) rfl
  have k2 : Kp [p, c, st] H1 (upd H1 q2 (.tup [.str "name", .str t0])) := Kp.new hq2
  have hd1 := Dp.keep k2 _ _ (data_fz _) hd1
  show _
  generalize upd H1 q2 (.tup [.str "name", .str t0]) = H2 at En2 hd1 hd2 k2 ⊢
  refine ⟨(by show 2 ≤ sizeLine; decide), fun q3 hq3 => ?_⟩
  have En3 := En2.new (o := .tup [.str "number", .int 1]) hq3
  have hd3 : Dp K (upd H2 q3 (.tup [.str "number", .int 1])) (.ref q3) (Lz.P.num 1).data := Dp.newT hq3 (.cons (.str _) (.cons (.int _) .nil)) rfl
  have k3 : Kp [p, c, st] H2 (upd H2 q3 (.tup [.str "number", .int 1])) := Kp.new hq3
  have hd1 := Dp.keep k3 _ _ (data_fz _) hd1
  have hd2 := Dp.keep k3 _ _ (data_fz _) hd2
  generalize upd H2 q3 (.tup [.str "number", .int 1]) = H3 at En3 hd1 hd2 hd3 k3 ⊢
  refine ⟨(by show 3 ≤ sizeLine; decide), fun q4 hq4 => ?_⟩
  have En4 := En3.new (o := .tup [.str "less", .ref q2, .ref q3]) hq4
  have hd4 : Dp K (upd H3 q4 (.tup [.str "less", .ref q2, .ref q3])) (.ref q4) (Lz.P.op "less" [.nam t0, .num 1]).data := op_dp hq4 (.cons hd2 (.cons hd3 .nil))
  have k4 : Kp [p, c, st] H3 (upd H3 q4 (.tup [.str "less", .ref q2, .ref q3])) := Kp.new hq4
  have hd1 := Dp.keep k4 _ _ (data_fz _) hd1
  generalize upd H3 q4 (.tup [.str "less", .ref q2, .ref q3]) = H4 at En4 hd1 hd4 k4 ⊢
  refine ⟨(by show 3 ≤ sizeLine; decide), fun q5 hq5 => ?_⟩
  have En5 := En4.new (o := .tup [.str "give", .ref q1, .ref q4]) hq5
  have hd5 : Dp K (upd H4 q5 (.tup [.str "give", .ref q1, .ref q4])) (.ref q5) (again me t0 []).data := op_dp hq5 (.cons hd1 (.cons hd4 .nil))
  have k5 : Kp [p, c, st] H (upd H4 q5 (.tup [.str "give", .ref q1, .ref q4])) := k1.trans (k2.trans (k3.trans (k4.trans (Kp.new hq5))))
  generalize upd H4 q5 (.tup [.str "give", .ref q1, .ref q4]) = H5 at En5 hd5 k5 ⊢
  have hR5 := k5.lst hR (En0.room hR)
  clear hd4 hd3 hd2 hd1 k4 k3 k2 k1 En1 En2 En3 En4
  -- the further things
  refine ⟨_, rfl, _, rfl, tl, _, rfl, SqL.of En5.scp, fun lp hlp => ?_⟩
  have ecut : cutV (List.map V.str (t0 :: ts)) (some 1) none = ts.map V.str := cut_1 _ _
  rw [ecut]
  have En6 := En5.new (o := .lst (ts.map V.str)) hlp
  have nlp := En5.fresh hlp
  have k6 : Kp [p, c, st] H5 (upd H5 lp (.lst (ts.map V.str))) := Kp.new hlp
  have hp6 : (upd H5 lp (.lst (ts.map V.str))) lp = some (.lst (ts.map V.str)) := upd_same
  have hR6 := k6.lst hR5 (En5.room hR5)
  have hd6 := Dp.keep k6 _ _ (data_fz _) hd5
  have k6 := k5.trans k6
  generalize upd H5 lp (.lst (ts.map V.str)) = H6 at En6 hp6 hR6 hd6 k6 ⊢
  clear k5 hd5 hR5 En5 ecut
  refine ⟨lp, rfl, ⟨_, SqL.of hp6⟩, for_list (K := K) (a := lp) (xs := ts.map V.str) (fun i σ H' => ∃ (v5 : V) (n' : Int) (ss' : List Str) (os as : List Lz.P) (v6 v7 : Option V),
      σ = [some (.ref p), some (.ref wl), some (.str me), some (.ref tl), some (.ref r), some v5, v6, v7, none, none] ∧ Kp [p, c, st] H H' ∧ En K H' W (t0 :: ts) p a wl tl c st n' ss' ∧ H' r = some (.lst [.int dp, .ref c, .ref st]) ∧ H' lp = some (.lst (ts.map V.str)) ∧
      Dp K H' v5 (again me t0 as).data ∧ Dr W (t0 :: ts) 2 n ss n' ss' os ∧ Args (ts.take i) os as)
    ⟨.ref q5, n, ss, [], [], none, none, rfl, k6, En6, hR6, hp6, hd6, .nil, .nil⟩ (fun i σ H' _ ⟨_, _, _, _, _, _, _, _, _, _, _, h, _⟩ => SqL.of h) ?_ ?_⟩
  · rintro i x σ H7 hi ⟨v5, n', ss', os, as, v6, v7, rfl, k7, En7, hR7, hp7, hd7, hdr, har⟩
    obtain ⟨t, ht, rfl⟩ : ∃ t, ts[i]? = some t ∧ x = V.str t := by
      rw [List.getElem?_map] at hi
      cases e : ts[i]? with
      | none => rw [e] at hi; cases hi
      | some y => rw [e] at hi; exact ⟨y, rfl, (Option.some.inj hi).symm⟩
    -- other
    refine ⟨_, rfl, _, rfl, _, rfl, _, rfl, r, _, _, _, rfl, rfl, SqL.of hR7, at_of (j := 1) rfl rfl, _, rfl, r, _, _, _, rfl, rfl, SqL.of hR7, at_of (j := 2) rfl rfl, (by show 3 ≤ sizeLine; decide), fun r2 hr2 => ?_⟩
    have En8 := En7.new (o := .lst [.int 2, .ref c, .ref st]) hr2
    have k8 : Kp [p, c, st] H7 (upd H7 r2 (.lst [.int 2, .ref c, .ref st])) := Kp.new hr2
    refine ⟨p, a, wl, tl, r2, c, st, "any", W, t0 :: ts, ss', 2, n', rfl, En8, upd_same, (by omega), (by omega), .inr (.inr rfl), fun u d H9 n2 ss2 k9 pen9 hc9 hs9 hd9 hdr9 => ?_⟩
    have En9 := En8.step k9 pen9 hc9 hs9 hdr9.sub hdr9.len
    have k9 := k8.trans k9
    have hR9 := k9.lst hR7 (En7.room hR7)
    have hp9 := k9.lst hp7 nlp
    have hd10 := Dp.keep k9 _ _ (data_fz _) hd7
    -- the name or other
    refine ⟨_, rfl, _, rfl, (by show 2 ≤ sizeLine; decide), fun q1 hq1 => ?_⟩
    have En10 := En9.new (o := .tup [.str "name", .str t]) hq1
    have k10 : Kp [p, c, st] H9 (upd H9 q1 (.tup [.str "name", .str t])) := Kp.new hq1
    have hdn : Dp K (upd H9 q1 (.tup [.str "name", .str t])) (.ref q1) (Lz.P.nam t).data := Dp.newT hq1 (.cons (.str _) (.cons (.str _) .nil)) rfl
    have hdo := Dp.keep k10 _ _ (data_fz _) hd9
    have hd10 := Dp.keep k10 _ _ (data_fz _) hd10
    have hR10 := k10.lst hR9 (En9.room hR9)
    have hp10 := k10.lst hp9 nlp
    have k10 := k9.trans k10
    generalize upd H9 q1 (.tup [.str "name", .str t]) = H10 at En10 k10 hdn hdo hd10 hR10 hp10 ⊢
    refine ⟨_, rfl, (by show 2 ≤ sizeLine; decide), fun l hl => ?_⟩
    have En11 := En10.new (o := .lst [.ref q1, u]) hl
    have nl := En10.fresh hl
    have k11 : Kp [p, c, st] H10 (upd H10 l (.lst [.ref q1, u])) := Kp.new hl
    have hl11 : (upd H10 l (.lst [.ref q1, u])) l = some (.lst [.ref q1, u]) := upd_same
    refine ⟨_, rfl, p, a, 2, rfl, En11.pen, (by decide), (by decide), fun g H12 k12 pen12 g0 g1 => ?_⟩
    have En12 := En11.same k12 pen12
    have k12' := k12.mono (T := [p, c, st]) sub3
    have hl12 := k12'.lst hl11 nl
    have k12 := k11.trans k12'
    have hdn := Dp.keep k12 _ _ (data_fz _) hdn
    have hdo := Dp.keep k12 _ _ (data_fz _) hdo
    have hd12 := Dp.keep k12 _ _ (data_fz _) hd10
    have hR12 := k12.lst hR10 (En10.room hR10)
    have hp12 := k12.lst hp10 nlp
    obtain ⟨va, b, hva, hb, hab⟩ : ∃ (va : V) (b : Lz.P), ([.ref q1, u] : List V)[g.toNat]? = some va ∧ Dp K H12 va b.data ∧ argOf t d b := by
      have h0 : g.toNat < 2 := by omega
      generalize g.toNat = j at h0
      match j, h0 with
      | 0, _ => exact ⟨_, _, rfl, hdn, .inl rfl⟩
      | 1, _ => exact ⟨_, _, rfl, hdo, .inr rfl⟩
    refine ⟨l, _, _, _, rfl, rfl, SqL.of hl12, at_of (j := g.toNat) (by omega) hva, (by show 3 ≤ sizeLine; decide), fun q hq => ?_⟩
    have k13 : Kp [p, c, st] H12 (upd H12 q (.tup [.str "give", v5, va])) := Kp.new hq
    refine ⟨_, n2, ss2, os ++ [d], as ++ [b], _, _, rfl, k7.trans (k10.trans (k12.trans k13)), En12.new hq, k13.lst hR12 (En12.room hR12), k13.lst hp12 nlp, ?_, hdr.append hdr9, ?_⟩
    · show Dp K _ _ (gives (.fn me) ((.op "less" [.nam t0, .num 1] :: as) ++ [b])).data
      rw [gives_snoc]
      exact op_dp hq (.cons hd12 (.cons hb .nil))
    · rw [List.take_add_one, ht]
      exact .snoc har hab
  · rintro σ H7 ⟨v5, n', ss', os, as, v6, v7, rfl, k7, En7, hR7, hp7, hd7, hdr, har⟩
    rw [List.length_map, List.take_length] at har
    -- one
    refine ⟨_, rfl, _, rfl, _, rfl, _, rfl, r, _, _, _, rfl, rfl, SqL.of hR7, at_of (j := 1) rfl rfl, _, rfl, r, _, _, _, rfl, rfl, SqL.of hR7, at_of (j := 2) rfl rfl, (by show 3 ≤ sizeLine; decide), fun r2 hr2 => ?_⟩
    have En8 := En7.new (o := .lst [.int 3, .ref c, .ref st]) hr2
    have k8 : Kp [p, c, st] H7 (upd H7 r2 (.lst [.int 3, .ref c, .ref st])) := Kp.new hr2
    refine ⟨p, a, wl, tl, r2, c, st, "number", W, t0 :: ts, ss', 3, n', rfl, En8, upd_same, (by omega), (by omega), .inl rfl, fun u d H9 n2 ss2 k9 pen9 hc9 hs9 hd9 hdr9 => ?_⟩
    have En9 := En8.step k9 pen9 hc9 hs9 hdr9.sub hdr9.len
    have k9 := k8.trans k9
    have hR9 := k9.lst hR7 (En7.room hR7)
    have hc := Dp.keep k9 _ _ (data_fz _) hd7
    have ho := hd9
    clear En8 k8 hd7 hd9 hp7
    -- more
    refine ⟨_, rfl, _, rfl, _, rfl, (by show 3 ≤ sizeLine; decide), fun q1 hq1 => ?_⟩
    have k10 : Kp [p, c, st] H9 (upd H9 q1 (.tup [.str "plus", u, v5])) := Kp.new hq1
    have En10 := En9.new (o := .tup [.str "plus", u, v5]) hq1
    have h1 : Dp K (upd H9 q1 (.tup [.str "plus", u, v5])) (.ref q1) (Lz.P.op "plus" [d, again me t0 as]).data := op_dp hq1 (.cons ho (.cons hc .nil))
    have hc := Dp.keep k10 _ _ (data_fz _) hc
    have ho := Dp.keep k10 _ _ (data_fz _) ho
    have k10 := k9.trans k10
    generalize upd H9 q1 (.tup [.str "plus", u, v5]) = H10 at En10 k10 h1 hc ho ⊢
    refine ⟨_, rfl, _, rfl, (by show 3 ≤ sizeLine; decide), fun q2 hq2 => ?_⟩
    have k11 : Kp [p, c, st] H10 (upd H10 q2 (.tup [.str "pair", u, v5])) := Kp.new hq2
    have En11 := En10.new (o := .tup [.str "pair", u, v5]) hq2
    have h2 : Dp K (upd H10 q2 (.tup [.str "pair", u, v5])) (.ref q2) (Lz.P.op "pair" [d, again me t0 as]).data := op_dp hq2 (.cons ho (.cons hc .nil))
    have hc := Dp.keep k11 _ _ (data_fz _) hc
    have ho := Dp.keep k11 _ _ (data_fz _) ho
    have h1 := Dp.keep k11 _ _ (data_fz _) h1
    have k11 := k10.trans k11
    generalize upd H10 q2 (.tup [.str "pair", u, v5]) = H11 at En11 k11 h1 h2 hc ho ⊢
    refine ⟨_, rfl, _, rfl, (by show 3 ≤ sizeLine; decide), fun q3 hq3 => ?_⟩
    have k12 : Kp [p, c, st] H11 (upd H11 q3 (.tup [.str "plus", v5, u])) := Kp.new hq3
    have En12 := En11.new (o := .tup [.str "plus", v5, u]) hq3
    have h3 : Dp K (upd H11 q3 (.tup [.str "plus", v5, u])) (.ref q3) (Lz.P.op "plus" [again me t0 as, d]).data := op_dp hq3 (.cons hc (.cons ho .nil))
    have hc := Dp.keep k12 _ _ (data_fz _) hc
    have h1 := Dp.keep k12 _ _ (data_fz _) h1
    have h2 := Dp.keep k12 _ _ (data_fz _) h2
    have k12 := k11.trans k12
    generalize upd H11 q3 (.tup [.str "plus", v5, u]) = H12 at En12 k12 h1 h2 h3 hc ⊢
    refine ⟨(by show 4 ≤ sizeLine; decide), fun l hl => ?_⟩
    have En13 := En12.new (o := .lst [v5, .ref q1, .ref q2, .ref q3]) hl
    have nl := En12.fresh hl
    have k13 : Kp [p, c, st] H12 (upd H12 l (.lst [v5, .ref q1, .ref q2, .ref q3])) := Kp.new hl
    have hl13 : (upd H12 l (.lst [v5, .ref q1, .ref q2, .ref q3])) l = some (.lst [v5, .ref q1, .ref q2, .ref q3]) := upd_same
    refine ⟨_, rfl, p, a, 4, rfl, En13.pen, (by decide), (by decide), fun g H14 k14 pen14 g0 g1 => ?_⟩
    have En14 := En13.same k14 pen14
    have k14' := k14.mono (T := [p, c, st]) sub3
    have hl14 := k14'.lst hl13 nl
    have k14 := k13.trans k14'
    obtain ⟨va, b, hva, hb, hab⟩ : ∃ (va : V) (b : Lz.P), ([v5, .ref q1, .ref q2, .ref q3] : List V)[g.toNat]? = some va ∧ Dp K H14 va b.data ∧ More d (again me t0 as) b := by
      have h0 : g.toNat < 4 := by omega
      generalize g.toNat = j at h0
      match j, h0 with
      | 0, _ => exact ⟨_, _, rfl, Dp.keep k14 _ _ (data_fz _) hc, .call⟩
      | 1, _ => exact ⟨_, _, rfl, Dp.keep k14 _ _ (data_fz _) h1, .plus⟩
      | 2, _ => exact ⟨_, _, rfl, Dp.keep k14 _ _ (data_fz _) h2, .pair⟩
      | 3, _ => exact ⟨_, _, rfl, Dp.keep k14 _ _ (data_fz _) h3, .turn⟩
    have k14 := k12.trans k14
    have hR14 := k14.lst hR7 (En7.room hR7)
    refine ⟨l, _, _, _, rfl, rfl, SqL.of hl14, at_of (j := g.toNat) (by omega) hva, ?_⟩
    -- when
    refine ⟨_, rfl, tl, _, _, _, rfl, rfl, SqL.of En14.scp, at_of (j := 0) rfl rfl, (by show 2 ≤ sizeLine; decide), fun q4 hq4 => ?_⟩
    have k15 : Kp [p, c, st] H14 (upd H14 q4 (.tup [.str "name", .str t0])) := Kp.new hq4
    have En15 := En14.new (o := .tup [.str "name", .str t0]) hq4
    have hn : Dp K (upd H14 q4 (.tup [.str "name", .str t0])) (.ref q4) (Lz.P.nam t0).data := Dp.newT hq4 (.cons (.str _) (.cons (.str _) .nil)) rfl
    have hb := Dp.keep k15 _ _ (data_fz _) hb
    have hR15 := k15.lst hR14 (En14.room hR14)
    have k15 := k14.trans k15
    generalize upd H14 q4 (.tup [.str "name", .str t0]) = H15 at En15 k15 hn hb hR15 ⊢
    refine ⟨_, rfl, _, rfl, _, rfl, _, rfl, _, rfl, r, _, _, _, rfl, rfl, SqL.of hR15, at_of (j := 1) rfl rfl, _, rfl, r, _, _, _, rfl, rfl, SqL.of hR15, at_of (j := 2) rfl rfl, (by show 3 ≤ sizeLine; decide), fun r3 hr3 => ?_⟩
    have En16 := En15.new (o := .lst [.int 3, .ref c, .ref st]) hr3
    have k16 : Kp [p, c, st] H15 (upd H15 r3 (.lst [.int 3, .ref c, .ref st])) := Kp.new hr3
    refine ⟨p, a, wl, tl, r3, c, st, "number", W, t0 :: ts, ss2, 3, n2, rfl, En16, upd_same, (by omega), (by omega), .inl rfl, fun u3 e H17 n3 ss3 k17 pen17 hc17 hs17 hd17 hdr17 => ?_⟩
    have k17 := k16.trans k17
    have hn := Dp.keep k17 _ _ (data_fz _) hn
    have hb := Dp.keep k17 _ _ (data_fz _) hb
    refine ⟨(by show 4 ≤ sizeLine; decide), fun q hq => ?_⟩
    exact D _ (.op "when" [.nam t0, b, e]) _ (k7.trans (k15.trans (k17.trans (Kp.new hq)))) (pen17.new hq) (op_dp hq (.cons hn (.cons hb (.cons hd17 .nil)))) ⟨os, as, d, b, e, n', n2, n3, ss', ss2, ss3, hdr, har, hdr9, hab, hdr17, rfl⟩
end
end Lz

set_option Elab.async false
set_option linter.all false
set_option maxRecDepth 100000
set_option maxHeartbeats 8000000
namespace Lz
open PySem PySem.Spec PyProof.Rows L2
theorem Kp.drop {S T : List Addr} {H H1 H' : Hp} {c : Addr} (h : Kp S H H1) (hc : H c = none) (k : Kp T H1 H') (m : ∀ x, x ∈ T → x ∈ S ∨ x = c) : Kp S H H' := fun b o e n => k b o (h b o e n) fun i => by
  rcases m b i with q | q
  · exact n q
  · rw [q, hc] at e
    cases e
theorem not2 {p st x : Addr} (h1 : x ≠ p) (h2 : x ≠ st) : ¬ x ∈ [p, st] := fun m => by
  rcases List.mem_cons.mp m with e | m
  · exact h1 e
  · exact h2 (List.mem_singleton.mp m)
theorem sub2 {p st : Addr} : ∀ x, x ∈ [p] → x ∈ [p, st] := fun x h => by rw [List.mem_singleton.mp h]; exact List.mem_cons_self
/-- what the drawing of a body finds -/
structure Eb (K : PySem.W.Frag) (H : Hp) (W : List (Str × Int)) (things : List Str) (p a wl tl st : Addr) (ss : List Str) : Prop where
  pen : PenAt H p a
  wld : WAt K H wl W
  scp : H tl = some (.lst (things.map V.str))
  stk : H st = some (.lst (ss.map V.str))
  dw : ¬ wl ∈ [p, st]
  ds : ¬ tl ∈ [p, st]
  as : a ≠ st
  ps : p ≠ st
  nw : ∀ f, f ∈ W → nmOk f.1 ∧ 0 ≤ f.2 ∧ f.2 ≤ 4
  nc : ∀ x, x ∈ things → nmOk x
  ns : ∀ x, x ∈ ss → nmOk x
  lw : W.length ≤ 8
  lt : things.length ≤ 4
  ls : ss.length ≤ 26
section
variable {K : PySem.W.Frag} {H H' : Hp} {W : List (Str × Int)} {things : List Str} {p a wl tl st : Addr} {ss : List Str}
theorem Eb.keep (E : Eb K H W things p a wl tl st ss) (k : Kp [p] H H') (pen : PenAt H' p a) : Eb K H' W things p a wl tl st ss :=
  ⟨pen, E.wld.keep k (fun m => E.dw (sub2 _ m)), k.lst E.scp (fun m => E.ds (sub2 _ m)), k.lst E.stk (not1 E.ps.symm), E.dw, E.ds, E.as, E.ps, E.nw, E.nc, E.ns, E.lw, E.lt, E.ls⟩
theorem Eb.new {q : Addr} {o : HO} (E : Eb K H W things p a wl tl st ss) (h : H q = none) : Eb K (upd H q o) W things p a wl tl st ss := E.keep (Kp.new h) (E.pen.new h)
theorem Eb.en {c : Addr} {n : Int} (E : Eb K H W things p a wl tl st ss) (h : H c = none) : En K (upd H c (.lst [.int n])) W things p a wl tl c st n ss := by
  have E' := E.new (o := .lst [.int n]) h
  obtain ⟨ws, h1, _⟩ := E.wld
  obtain ⟨cp, ca⟩ := E.pen.apart h
  have cw := (ne_of_none h1 h).symm
  have ct := (ne_of_none E.scp h).symm
  have cs := (ne_of_none E.stk h).symm
  refine ⟨E'.pen, E'.wld, E'.scp, upd_same, E'.stk, ?_, ?_, ?_, cp.symm, E.ps, cs, E.nw, E.nc, E.ns, E.lw, by have := E.lt; have := E.ls; omega⟩
  · exact not3 (fun e => E.dw (by rw [e]; exact List.mem_cons_self)) cw.symm (fun e => E.dw (by rw [e]; exact List.mem_cons_of_mem _ List.mem_cons_self))
  · exact not3 (fun e => E.ds (by rw [e]; exact List.mem_cons_self)) ct.symm (fun e => E.ds (by rw [e]; exact List.mem_cons_of_mem _ List.mem_cons_self))
  · exact not3 E.pen.ne ca.symm E.as
end
def spBody (K : PySem.W.Frag) : Sp := fun vs H Q _ => ∃ (p a wl tl st : Addr) (me : Str) (W : List (Str × Int)) (things ss : List Str), vs = [.ref p, .ref wl, .str me, .ref tl, .ref st] ∧
  Eb K H W things p a wl tl st ss ∧ ∀ (v : V) (d : Lz.P) (H' : Hp), Kp [p, st] H H' → PenAt H' p a → Dp K H' v d.data → Bd W me things ss d → Q v H'
theorem emp_ne {x : Str} (c : (!decide (V.str x = V.str "")) = true) : x ≠ "" := fun e => by
  rw [e, decide_eq_true rfl] at c
  cases c
section
variable {P : Program} {w : World} {K : PySem.W.Frag} {mg : Str → Option Value} {base : Heap} {f : Addr} {fd : FuncData}
abbrev sLBody : Stmt := topS 25
theorem scLBody : FnScope ["_law_pen_here", "_law_world", "_law_me", "_law_things", "_law_stock", "_law_deep", "_law_left", "_law_part_here", "_law_k"] ["_law_pen_here", "_law_world", "_law_me", "_law_things", "_law_stock"] (defScope sLBody) := ⟨rfl, rfl, rfl, by decide +kernel, rfl, by decide +kernel, by decide +kernel⟩
theorem ok_body {j : Nat} (hj : 3 ≤ j) (F : Fun K "_law_body" "_law_body" sLBody f fd) (B : Bt mg) (CLDraw : C8.Cal P w K mg base 1 "_law_draw" (spDraw K) [])
    (CLPart : C8.Cal P w K mg base j "_law_part" (spPart K 12) []) (CLLoop : C8.Cal P w K mg base (j + 1) "_law_loop" (spLoop K) []) : FnOk P w K mg base CX0 (j + 2) f fd ["_law_pen_here", "_law_world", "_law_me", "_law_things", "_law_stock"] (spBody K) := by
  have mmin := B.min
  have mrange := B.range
  refine F.ok scLBody (fun vs H Q E h => ?_) (fun cdv A outer s H vs Q E hr h => ?_)
  · obtain ⟨p, a, wl, tl, st, me, W, things, ss, rfl, _⟩ := h
    rfl
  have hu64 := hr.units
  obtain ⟨p, a, wl, tl, st, me, W, things, ss, rfl, Eb0, D⟩ := h
  refine ⟨_, (pss_cons (ps_set (i := 5) scLBody.nd rfl (.inl rfl) (pe_ix (ix_listK (K := K) rfl) (pe_lst (pa_cons pe_int (pa_cons pe_int (pa_cons pe_int (pa_cons pe_int pa_nil))))) (C8.pe_c CLDraw hr (by first | decide | omega) (by rfl) (pa_cons (pv 0) (pa_cons pe_int pa_nil))) (fun _ _ => rfl)))
    (pss_cons (ps_set (i := 6) scLBody.nd rfl (.inl rfl) (pe_ix (ix_listK (K := K) rfl) (pe_lst (pa_cons pe_int (pa_cons pe_int (pa_cons pe_int (pa_cons pe_int (pa_cons pe_int (pa_cons pe_int pa_nil))))))) (C8.pe_c CLDraw hr (by first | decide | omega) (by rfl) (pa_cons (pv 0) (pa_cons pe_int pa_nil))) (fun _ _ => rfl)))
    (C8.pss_cut (ps_if (PW.pt (pw_and (pt_cmpR op_ne (pv 2) pe_str (nomark _)) (pw_and (pt_cmpR (op_neDK (K := K) rfl hu64) (pv 3) (pe_lst pa_nil) (nomark _)) (pw_and1 (pt_cmpR op_eq (C8.pe_c CLDraw hr (by first | decide | omega) (by rfl) (pa_cons (pv 0) (pa_cons pe_int pa_nil))) pe_int (nomark _)))))) (pss_one (ps_ret (C8.pe_c CLLoop hr (by first | decide | omega) (by rfl) (pa_cons (pv 0) (pa_cons (pv 1) (pa_cons (pv 2) (pa_cons (pv 3) (pa_cons (pe_lst (pa_cons (pv 5) (pa_cons (pe_lst (pa_cons (pe_callB (call_min2 rfl) (by rfl) mmin (by decide +kernel) (pa_cons (pv 6) (pa_cons pe_int pa_nil))) pa_nil)) (pa_cons (pv 4) pa_nil)))) pa_nil)))))))) pss_nil)
    (C8.pss_cut (ps_if (PW.pt (pw_and (pt_cmpR op_eq (pv 2) pe_str (nomark _)) (pw_and (pt_cmpR (op_neDK (K := K) rfl hu64) (pv 1) (pe_lst pa_nil) (nomark _)) (pw_and1 (pt_cmpR op_eq (C8.pe_c CLDraw hr (by first | decide | omega) (by rfl) (pa_cons (pv 0) (pa_cons pe_int pa_nil))) pe_int (nomark _)))))) (pss_cons (ps_set (i := 7) scLBody.nd rfl (.inl rfl) (pe_tup (pa_cons pe_str (pa_cons (pe_ix (ix_tupK (K := K) rfl) (pe_ix (ix_listK (K := K) rfl) (pv 1) pe_int (fun _ _ => rfl)) pe_int (fun _ _ => rfl)) pa_nil))))
    (pss_cons (ps_for PassesOwn.never rfl (pi_range1 (by rfl) mrange (pa_cons (pe_ix (ix_tupK (K := K) rfl) (pe_ix (ix_listK (K := K) rfl) (pv 1) pe_int (fun _ _ => rfl)) pe_int (fun _ _ => rfl)) pa_nil)) (pg_name (i := 8) scLBody.nd rfl (.inl rfl)) (pss_one (ps_set (i := 7) scLBody.nd rfl (.inl rfl) (pe_tup (pa_cons pe_str (pa_cons (pv 7) (pa_cons (pe_tup (pa_cons pe_str (pa_cons (C8.pe_c CLDraw hr (by first | decide | omega) (by rfl) (pa_cons (pv 0) (pa_cons pe_int pa_nil))) pa_nil))) pa_nil)))))))
    (pss_one (ps_ret (pv 7))))) pss_nil)
    (pss_one (ps_ret (C8.pe_c CLPart hr (by first | decide | omega) (by rfl) (pa_cons (pv 0) (pa_cons (pv 1) (pa_cons (pv 3) (pa_cons (pe_lst (pa_cons (pv 5) (pa_cons (pe_lst (pa_cons (pv 6) pa_nil)) (pa_cons (pv 4) pa_nil)))) (pa_cons pe_str pa_nil)))))))))))), ?_⟩
  -- how deep, how many
  refine ⟨(by show 4 ≤ sizeLine; decide), fun l hl => ?_⟩
  have Eb1 := Eb0.new (o := .lst [.int 2, .int 7, .int 9, .int 11]) hl
  have hl1 : (upd H l (.lst [.int 2, .int 7, .int 9, .int 11])) l = some (.lst [.int 2, .int 7, .int 9, .int 11]) := upd_same
  have k1 : Kp [p] H (upd H l (.lst [.int 2, .int 7, .int 9, .int 11])) := Kp.new hl
  refine ⟨_, rfl, p, a, 4, rfl, Eb1.pen, (by decide), (by decide), fun g H2 k2 pen2 g0 g1 => ?_⟩
  have Eb2 := Eb1.keep k2 pen2
  have hl2 := k2.lst hl1 (not1 (Eb0.pen.apart hl).1)
  have k2 := k1.trans k2
  obtain ⟨dp, hdp, dp0, dp1⟩ : ∃ z : Int, ([.int 2, .int 7, .int 9, .int 11] : List V)[g.toNat]? = some (.int z) ∧ 0 ≤ z ∧ z ≤ 11 := by
    have h0 : g.toNat < 4 := by omega
    generalize g.toNat = j at h0
    match j, h0 with
    | 0, _ => exact ⟨_, rfl, by decide, by decide⟩
    | 1, _ => exact ⟨_, rfl, by decide, by decide⟩
    | 2, _ => exact ⟨_, rfl, by decide, by decide⟩
    | 3, _ => exact ⟨_, rfl, by decide, by decide⟩
  refine ⟨l, _, _, _, rfl, rfl, SqL.of hl2, at_of (j := g.toNat) (by omega) hdp, ?_⟩
  refine ⟨(by show 6 ≤ sizeLine; decide), fun l3 hl3 => ?_⟩
  have Eb3 := Eb2.new (o := .lst [.int 2, .int 7, .int 14, .int 24, .int 40, .int 59]) hl3
  have hl4 : (upd H2 l3 (.lst [.int 2, .int 7, .int 14, .int 24, .int 40, .int 59])) l3 = some (.lst [.int 2, .int 7, .int 14, .int 24, .int 40, .int 59]) := upd_same
  have k3 : Kp [p] H2 (upd H2 l3 (.lst [.int 2, .int 7, .int 14, .int 24, .int 40, .int 59])) := Kp.new hl3
  refine ⟨_, rfl, p, a, 6, rfl, Eb3.pen, (by decide), (by decide), fun y H4 k4 pen4 y0 y1 => ?_⟩
  have Eb4 := Eb3.keep k4 pen4
  have hl5 := k4.lst hl4 (not1 (Eb2.pen.apart hl3).1)
  have k4 := k2.trans (k3.trans k4)
  obtain ⟨n, hn, n0, n1⟩ : ∃ z : Int, ([.int 2, .int 7, .int 14, .int 24, .int 40, .int 59] : List V)[y.toNat]? = some (.int z) ∧ 0 ≤ z ∧ z ≤ 59 := by
    have h0 : y.toNat < 6 := by omega
    generalize y.toNat = j at h0
    match j, h0 with
    | 0, _ => exact ⟨_, rfl, by decide, by decide⟩
    | 1, _ => exact ⟨_, rfl, by decide, by decide⟩
    | 2, _ => exact ⟨_, rfl, by decide, by decide⟩
    | 3, _ => exact ⟨_, rfl, by decide, by decide⟩
    | 4, _ => exact ⟨_, rfl, by decide, by decide⟩
    | 5, _ => exact ⟨_, rfl, by decide, by decide⟩
  refine ⟨l3, _, _, _, rfl, rfl, SqL.of hl5, at_of (j := y.toNat) (by omega) hn, ?_⟩
  clear Eb0 Eb1 Eb2 Eb3 k1 k2 k3 hl1 hl2 hl4 hl5 pen2 pen4
  -- a loop?
  refine ⟨fun σ' H' => σ' = [some (.ref p), some (.ref wl), some (.str me), some (.ref tl), some (.ref st), some (.int dp), some (.int n), none, none] ∧ Kp [p] H H' ∧ Eb K H' W things p a wl tl st ss, ?_, ?_⟩
  · refine ⟨_, rfl, rfl, _, rfl, ?_⟩
    refine ite2 (fun c1 => ?_) (fun c1 => ⟨rfl, k4, Eb4⟩)
    have hme := emp_ne c1
    refine ⟨_, rfl, Nat.zero_le _, fun l hl => ?_⟩
    have k5 : Kp [p] H (upd H4 l (.lst [])) := k4.trans (Kp.new hl)
    have Eb5 := Eb4.new (o := .lst []) hl
    refine ⟨_, _, scope_dp Eb5.scp, nil_dp, strs_shaped Eb5.nc, nil_shaped, _, rfl, ?_⟩
    rw [eqv_nil]
    generalize upd H4 l (.lst []) = H5 at Eb5 k5 ⊢
    refine ite2 (fun c2 => ?_) (fun c2 => ⟨rfl, k5, Eb5⟩)
    obtain ⟨t0, ts, rfl⟩ : ∃ t0 ts, things = t0 :: ts := by
      cases things with
      | nil => cases c2
      | cons t ts => exact ⟨t, ts, rfl⟩
    refine ⟨_, rfl, p, a, 3, rfl, Eb5.pen, (by decide), (by decide), fun z H6 k6 pen6 z0 z1 => ?_⟩
    have Eb6 := Eb5.keep k6 pen6
    have k6 := k5.trans k6
    refine ⟨rfl, _, rfl, ?_⟩
    refine ite2 (fun c3 => ?_) (fun c3 => ⟨rfl, k6, Eb6⟩)
    refine ⟨_, rfl, _, rfl, _, rfl, _, rfl, _, rfl, _, rfl, _, _, rfl, (by show 1 ≤ sizeLine; decide), fun c hc => ?_⟩
    have hmin : (if (40 : Int) < n then (40 : Int) else n) = min n 40 := by omega
    have En7 := Eb6.en (n := if (40 : Int) < n then (40 : Int) else n) hc
    have k7 : Kp [p] H6 (upd H6 c (.lst [.int (if (40 : Int) < n then (40 : Int) else n)])) := Kp.new hc
    have k7 := k6.trans k7
    have hc0 : H c = none := k6.free hc (not1 (Eb6.pen.apart hc).1)
    refine ⟨_, rfl, (by show 3 ≤ sizeLine; decide), fun r hr2 => ?_⟩
    have En8 := En7.new (o := .lst [.int dp, .ref c, .ref st]) hr2
    have k8 : Kp [p] H _ := k7.trans (Kp.new (o := .lst [.int dp, .ref c, .ref st]) hr2)
    have l4 := Eb6.lt
    rw [List.length_cons] at l4
    refine ⟨p, a, wl, tl, r, c, st, me, t0, W, ts, ss, dp, _, rfl, En8, upd_same, (by omega), fun v d H9 k9 pen9 hd9 hL => ?_⟩
    refine D v d H9 (Kp.drop (k8.mono sub2) hc0 k9 fun x m => ?_) pen9 hd9 (.loop hme rfl ?_ ?_ hL)
    · rcases List.mem_cons.mp m with e | m
      · exact .inl (by rw [e]; exact List.mem_cons_self)
      · rcases List.mem_cons.mp m with e | m
        · exact .inr e
        · exact .inl (by rw [List.mem_singleton.mp m]; exact List.mem_cons_of_mem _ List.mem_cons_self)
    · rw [hmin]; omega
    · rw [hmin]; omega
  rintro _ H5 ⟨rfl, k5, Eb5⟩
  clear Eb4 k4
  -- the first function, asked?
  refine ⟨fun σ' H' => (∃ v7 v8, σ' = [some (.ref p), some (.ref wl), some (.str me), some (.ref tl), some (.ref st), some (.int dp), some (.int n), v7, v8]) ∧ Kp [p] H H' ∧ Eb K H' W things p a wl tl st ss, ?_, ?_⟩
  · refine ⟨_, rfl, rfl, _, rfl, ?_⟩
    refine ite2 (fun c1 => ?_) (fun c1 => ⟨⟨_, _, rfl⟩, k5, Eb5⟩)
    have hme := str_of_decide c1
    refine ⟨_, rfl, Nat.zero_le _, fun l hl => ?_⟩
    have k6 : Kp [p] H (upd H5 l (.lst [])) := k5.trans (Kp.new hl)
    have Eb6 := Eb5.new (o := .lst []) hl
    refine ⟨_, _, Eb6.wld.dp, nil_dp, wds_shaped (fun f m => (Eb6.nw f m).1), nil_shaped, _, rfl, ?_⟩
    rw [eqv_nil]
    generalize upd H5 l (.lst []) = H6 at Eb6 k6 ⊢
    refine ite2 (fun c2 => ?_) (fun c2 => ⟨⟨_, _, rfl⟩, k6, Eb6⟩)
    obtain ⟨⟨fn, wn⟩, rest, rfl⟩ : ∃ fw rest, W = fw :: rest := by
      cases W with
      | nil => cases c2
      | cons t ts => exact ⟨t, ts, rfl⟩
    refine ⟨_, rfl, p, a, 2, rfl, Eb6.pen, (by decide), (by decide), fun z H7 k7 pen7 z0 z1 => ?_⟩
    have Eb7 := Eb6.keep k7 pen7
    have k7 := k6.trans k7
    refine ⟨rfl, _, rfl, ?_⟩
    refine ite2 (fun c3 => ?_) (fun c3 => ⟨⟨_, _, rfl⟩, k7, Eb7⟩)
    obtain ⟨ws, hws, hdw⟩ := id Eb7.wld
    obtain ⟨t, wr, rfl, hT⟩ : ∃ t wr, ws = .ref t :: wr ∧ SqT K H7 t [.str fn, .int wn] := by
      cases hdw with
      | cons h1 h2 =>
        obtain ⟨t, xs, rfl, ht, hxs⟩ := h1.tup_of
        cases hxs with
        | cons h3 h4 =>
          cases h3
          cases h4 with
          | cons h5 h6 =>
            cases h5
            cases h6
            exact ⟨t, _, rfl, ht⟩
    have hw4 := (Eb7.nw _ List.mem_cons_self).2
    refine ⟨_, rfl, wl, _, _, _, rfl, rfl, SqL.of hws, at_of (j := 0) rfl rfl, t, _, _, _, rfl, rfl, hT, at_of (j := 0) rfl rfl, (by show 2 ≤ sizeLine; decide), fun q hq => ?_⟩
    have Eb8 := Eb7.new (o := .tup [.str "fun", .str fn]) hq
    have k8 : Kp [p] H7 (upd H7 q (.tup [.str "fun", .str fn])) := Kp.new hq
    have hd8 : Dp K (upd H7 q (.tup [.str "fun", .str fn])) (.ref q) (Lz.P.fn fn).data := Dp.newT hq (.cons (.str _) (.cons (.str _) .nil)) rfl
    have hws8 := k8.lst hws (fun m => Eb7.dw (sub2 _ m))
    have hT8 := k8.sqT hT
    have k8 := k7.trans k8
    generalize upd H7 q (.tup [.str "fun", .str fn]) = H8 at Eb8 k8 hd8 hws8 hT8 ⊢
    refine ⟨_, rfl, wl, _, _, _, rfl, rfl, SqL.of hws8, at_of (j := 0) rfl rfl, t, _, _, _, rfl, rfl, hT8, at_of (j := 1) rfl rfl, _, rfl, (by omega), (by omega), for_range (lo := 0) (n := wn.toNat) (fun i σ H' => ∃ (v7 : V) (ks : List Int) (v8 : Option V),
        σ = [some (.ref p), some (.ref wl), some (.str me), some (.ref tl), some (.ref st), some (.int dp), some (.int n), some v7, v8] ∧ ks.length = i ∧ (∀ k, k ∈ ks → 0 ≤ k ∧ k < 8) ∧ Kp [p] H H' ∧ PenAt H' p a ∧ Dp K H' v7 (gives (.fn fn) (ks.map .num)).data)
      ⟨.ref q, [], none, rfl, rfl, (fun k m => nomatch m), k8, Eb8.pen, hd8⟩ ?_ ?_⟩
    · rintro i σ H9 hi ⟨v7, ks, v8, rfl, hks, hk8, k9, pen9, hd9⟩
      refine ⟨_, rfl, _, rfl, p, a, 8, rfl, pen9, (by decide), (by decide), fun g H10 k10 pen10 g0 g1 => ?_⟩
      refine ⟨(by show 2 ≤ sizeLine; decide), fun q1 hq1 => ?_⟩
      have hdn : Dp K (upd H10 q1 (.tup [.str "number", .int g])) (.ref q1) (Lz.P.num g).data := Dp.newT hq1 (.cons (.str _) (.cons (.int _) .nil)) rfl
      have k11 : Kp [p] H9 (upd H10 q1 (.tup [.str "number", .int g])) := k10.trans (Kp.new hq1)
      have pen11 := pen10.new (o := .tup [.str "number", .int g]) hq1
      have hd11 := Dp.keep k11 _ _ (data_fz _) hd9
      generalize upd H10 q1 (.tup [.str "number", .int g]) = H11 at hdn k11 pen11 hd11 ⊢
      refine ⟨(by show 3 ≤ sizeLine; decide), fun q2 hq2 => ?_⟩
      refine ⟨_, ks ++ [g], _, rfl, by rw [List.length_append, hks]; rfl, ?_, k9.trans (k11.trans (Kp.new hq2)), pen11.new hq2, ?_⟩
      · intro k m
        rcases List.mem_append.mp m with m | m
        · exact hk8 k m
        · rw [List.mem_singleton.mp m]
          exact ⟨g0, g1⟩
      · rw [List.map_append]
        show Dp K _ _ (gives (.fn fn) (ks.map Lz.P.num ++ [.num g])).data
        rw [gives_snoc]
        exact op_dp hq2 (.cons hd11 (.cons hdn .nil))
    · rintro σ H9 ⟨v7, ks, v8, rfl, hks, hk8, k9, pen9, hd9⟩
      refine ⟨_, rfl, D v7 _ H9 (k9.mono sub2) pen9 hd9 (.first hme rfl (by omega) hk8)⟩
  · rintro _ H6 ⟨⟨v7, v8, rfl⟩, k6, Eb6⟩
    refine ⟨_, rfl, _, rfl, _, rfl, _, rfl, _, rfl, (by show 1 ≤ sizeLine; decide), fun c hc => ?_⟩
    have En7 := Eb6.en (n := n) hc
    have k7 : Kp [p] H6 (upd H6 c (.lst [.int n])) := Kp.new hc
    have k7 := k6.trans k7
    have hc0 : H c = none := k6.free hc (not1 (Eb6.pen.apart hc).1)
    refine ⟨_, rfl, (by show 3 ≤ sizeLine; decide), fun r hr2 => ?_⟩
    have En8 := En7.new (o := .lst [.int dp, .ref c, .ref st]) hr2
    have k8 : Kp [p] H _ := k7.trans (Kp.new (o := .lst [.int dp, .ref c, .ref st]) hr2)
    refine ⟨p, a, wl, tl, r, c, st, "any", W, things, ss, dp, n, rfl, En8, upd_same, (by omega), (by omega), .inr (.inr rfl), fun v d H9 n' ss' k9 pen9 _ _ hd9 hdr => ?_⟩
    refine D v d H9 (Kp.drop (k8.mono sub2) hc0 k9 fun x m => ?_) pen9 hd9 (.part dp0 dp1 n0 n1 hdr)
    rcases List.mem_cons.mp m with e | m
    · exact .inl (by rw [e]; exact List.mem_cons_self)
    · rcases List.mem_cons.mp m with e | m
      · exact .inr e
      · exact .inl (by rw [List.mem_singleton.mp m]; exact List.mem_cons_of_mem _ List.mem_cons_self)
end
end Lz

set_option Elab.async false
set_option linter.all false
set_option maxRecDepth 100000
set_option maxHeartbeats 4000000
namespace Lz
open PySem PySem.Spec PyProof.Rows L2
def spNames (K : PySem.W.Frag) : Sp := fun vs H Q _ => ∃ (p a : Addr) (m : Nat), vs = [.ref p, .int m] ∧ PenAt H p a ∧ m ≤ 26 ∧
  ∀ (l : Addr) (xs : List Str) (H' : Hp), Kp [p] H H' → PenAt H' p a → H l = none → H' l = some (.lst (xs.map V.str)) → xs.length = m → (∀ x, x ∈ xs → nmOk x) → xs.Nodup → Q (.ref l) H'
section
variable {P : Program} {w : World} {K : PySem.W.Frag} {mg : Str → Option Value} {base : Heap} {f : Addr} {fd : FuncData}
abbrev sLNames : Stmt := topS 17
theorem scLNames : FnScope ["_law_pen_here", "_law_many_here", "_law_letters", "_law_word", "_law_at", "_law_first", "_law_by", "_law_k"] ["_law_pen_here", "_law_many_here"] (defScope sLNames) := ⟨rfl, rfl, rfl, by decide +kernel, rfl, by decide +kernel, by decide +kernel⟩
theorem ok_names (F : Fun K "_law_names" "_law_names" sLNames f fd) (B : Bt mg) (CLDraw : C8.Cal P w K mg base 1 "_law_draw" (spDraw K) []) : FnOk P w K mg base CX0 2 f fd ["_law_pen_here", "_law_many_here"] (spNames K) := by
  have ml := B.len
  have mrange := B.range
  refine F.ok scLNames (fun vs H Q E h => ?_) (fun cdv A outer s H vs Q E hr h => ?_)
  · obtain ⟨p, a, m, rfl, _⟩ := h
    rfl
  obtain ⟨p, a, m, rfl, hpen, hm, k⟩ := h
  refine ⟨_, (pss_cons (ps_set (i := 2) scLNames.nd rfl (.inr rfl) pe_str)
    (pss_cons (ps_set (i := 3) scLNames.nd rfl (.inr rfl) (pe_join pe_str (pe_lc (own := [("_law_k", 7)]) rfl scLNames.nd (pi_range1 (by rfl) mrange (pa_cons (pe_op op_add pe_int (C8.pe_c CLDraw hr (by first | decide | omega) (by rfl) (pa_cons (pv 0) (pa_cons pe_int pa_nil)))) pa_nil)) (blkOk_by (N := ["_law_pen_here", "_law_many_here", "_law_letters", "_law_word", "_law_at", "_law_first", "_law_by", "_law_k"]) (sc := defScope sLNames) (by decide +kernel)) (fun _ _ _ _ _ => (pg_name (i := 7) scLNames.nd rfl (.inl rfl))) (fun _ _ _ _ _ => pts_nil) (fun _ _ _ _ _ => (pe_ix ix_str (pv 2) (C8.pe_c CLDraw hr (by first | decide | omega) (by rfl) (pa_cons (pv 0) (pa_cons pe_int pa_nil))) (fun _ _ => rfl))))))
    (pss_cons (ps_set (i := 4) scLNames.nd rfl (.inr rfl) (C8.pe_c CLDraw hr (by first | decide | omega) (by rfl) (pa_cons (pv 0) (pa_cons (pe_callB call_len_str (by rfl) ml PySem.boot_len (pa_cons (pv 3) pa_nil)) pa_nil))))
    (pss_cons (ps_set (i := 5) scLNames.nd rfl (.inr rfl) (C8.pe_c CLDraw hr (by first | decide | omega) (by rfl) (pa_cons (pv 0) (pa_cons pe_int pa_nil))))
    (pss_cons (ps_set (i := 6) scLNames.nd rfl (.inr rfl) (pe_ix (ix_listK (K := K) rfl) (pe_lst (pa_cons pe_int (pa_cons pe_int (pa_cons pe_int (pa_cons pe_int (pa_cons pe_int (pa_cons pe_int pa_nil))))))) (C8.pe_c CLDraw hr (by first | decide | omega) (by rfl) (pa_cons (pv 0) (pa_cons pe_int pa_nil))) (fun _ _ => rfl)))
    (pss_one (ps_ret (pe_lc (own := [("_law_k", 7)]) rfl scLNames.nd (pi_range1 (by rfl) mrange (pa_cons (pv 1) pa_nil)) (blkOk_by (N := ["_law_pen_here", "_law_many_here", "_law_letters", "_law_word", "_law_at", "_law_first", "_law_by", "_law_k"]) (sc := defScope sLNames) (by decide +kernel)) (fun _ _ _ _ _ => (pg_name (i := 7) scLNames.nd rfl (.inl rfl))) (fun _ _ _ _ _ => pts_nil) (fun _ _ _ _ _ => (pe_op op_add_str (pe_op op_add_str (pe_slice sl_str (pv 3) po_none (po_some (pv 4))) (pe_ix ix_str (pv 2) (pe_op op_mod (pe_op op_add (pv 5) (pe_op op_mul (pv 6) (pv 7))) pe_int) (fun _ _ => rfl))) (pe_slice sl_str (pv 3) (po_some (pe_op op_add (pv 4) pe_int)) po_none))))))))))), ?_⟩
  -- letters; the word
  refine ⟨⟨_, rfl⟩, ⟨_, rfl, p, a, 8, rfl, hpen, by decide, by decide, fun r H1 k1 pen1 r0 r1 => ?_⟩⟩
  refine ⟨_, _, rfl, rfl, _, rfl, (by omega), (by omega), fun D hD => ?_⟩
  obtain ⟨hDp, hDa⟩ := pen1.apart hD
  have hD0 : H D = none := k1.free hD (not1 hDp)
  refine lc_range (lo := 0) (n := (1 + r).toNat) (fun i H' => Kp [p] H H' ∧ PenAt H' p a ∧ ∃ cs : List Nat, H' D = some (.lst ((cs.map one).map V.str)) ∧ cs.length = i ∧ ∀ c, c ∈ cs → 97 ≤ c ∧ c ≤ 122)
    ⟨k1.mut hD0, pen1.new hD, [], upd_same, rfl, fun c h => nomatch h⟩ (fun i H2 hi ⟨kk, pn, cs, hc, hl, hcs⟩ => ?_) (fun H2 ⟨kk, pn, cs, hc, hl, hcs⟩ => ?_)
  · refine ⟨rfl, ?_⟩
    refine ⟨_, rfl, _, rfl, p, a, 26, rfl, pn, by decide, by decide, fun r2 H3 k3 pen3 r20 r21 => ?_⟩
    refine ⟨_, _, _, rfl, rfl, letters_len, letters_at r20 r21, ?_⟩
    have hc3 : H3 D = some (.lst ((cs.map one).map V.str)) := k3.lst hc (not1 hDp)
    have hc4 : (cs.map one).map V.str ++ [V.str (one (97 + r2.toNat))] = ((cs ++ [97 + r2.toNat]).map one).map V.str := by
      rw [List.map_append, List.map_append]
      rfl
    refine ⟨_, hc3, (by rw [List.length_map, List.length_map]; exact small1000 (by omega)), (kk.trans k3).mut hD0, pen3.mut hDp hDa, cs ++ [97 + r2.toNat], Eq.trans upd_same (congrArg (fun z => some (HO.lst z)) hc4), by rw [List.length_append, List.length_singleton, hl], fun c hcm => ?_⟩
    rcases List.mem_append.mp hcm with q | q
    · exact hcs c q
    · rw [List.mem_singleton.mp q]
      omega
  · have hz := join_ones cs
    have hlen : cs.length = (1 + r).toNat := hl
    refine ⟨_, D, _, rfl, rfl, .inl (SqL.of hc), (by rw [sum_ones, List.length_map]; show cs.length + cs.length * 0 ≤ _; omega), ?_⟩
    generalize hword : Txt.join ("" : Str) (cs.map one) = word at hz
    have hwl : word.length = cs.length := by rw [str_len, hz]
    have hws : word.length ≤ sizeLine := by rw [hwl]; exact Nat.le_of_lt (small1000 (by omega))
    -- at, first, by
    refine ⟨_, rfl, _, rfl, _, rfl, hws, p, a, _, rfl, pn, (by omega), (by omega), fun kat H3 k3 pen3 q0 q1 => ?_⟩
    refine ⟨_, rfl, p, a, 26, rfl, pen3, (by omega), (by decide), fun fi H4 k4 pen4 f0 f1 => ?_⟩
    refine ⟨(by show 6 ≤ sizeLine; decide), fun lb hlb => ?_⟩
    have hl5 : (upd H4 lb (.lst [.int 1, .int 3, .int 5, .int 7, .int 9, .int 11])) lb = some (.lst [.int 1, .int 3, .int 5, .int 7, .int 9, .int 11]) := upd_same
    have k5 := ((kk.trans k3).trans k4).trans (Kp.new (S := [p]) (o := .lst [.int 1, .int 3, .int 5, .int 7, .int 9, .int 11]) hlb)
    refine ⟨_, rfl, p, a, 6, rfl, pen4.new hlb, (by omega), (by decide), fun bi H6 k6 pen6 b0 b1 => ?_⟩
    have hl6 := k6.lst hl5 (not1 (pen4.apart hlb).1)
    obtain ⟨b, hb, hb6⟩ : ∃ b : Nat, ([.int 1, .int 3, .int 5, .int 7, .int 9, .int 11] : List V)[bi.toNat]? = some (.int (b : Int)) ∧ (b = 1 ∨ b = 3 ∨ b = 5 ∨ b = 7 ∨ b = 9 ∨ b = 11) := by
      have h0 : bi.toNat < 6 := by omega
      generalize bi.toNat = j at h0
      match j, h0 with
      | 0, _ => exact ⟨1, rfl, by omega⟩
      | 1, _ => exact ⟨3, rfl, by omega⟩
      | 2, _ => exact ⟨5, rfl, by omega⟩
      | 3, _ => exact ⟨7, rfl, by omega⟩
      | 4, _ => exact ⟨9, rfl, by omega⟩
      | 5, _ => exact ⟨11, rfl, by omega⟩
    refine ⟨lb, _, _, _, rfl, rfl, SqL.of hl6, at_of (j := bi.toNat) (by omega) hb, ?_⟩
    have k7 := k5.trans k6
    -- the names
    refine ⟨_, rfl, _, rfl, (by omega), (by omega), fun E1 hE => ?_⟩
    obtain ⟨hEp, hEa⟩ := pen6.apart hE
    have hE0 : H E1 = none := k7.free hE (not1 hEp)
    obtain ⟨ka, rfl⟩ : ∃ n : Nat, kat = (n : Int) := ⟨kat.toNat, by omega⟩
    obtain ⟨f, rfl⟩ : ∃ n : Nat, fi = (n : Int) := ⟨fi.toNat, by omega⟩
    refine lc_range (lo := 0) (n := (m : Int).toNat) (fun i H' => Kp [p] H H' ∧ PenAt H' p a ∧ H' E1 = some (.lst ((namesOf cs ka f b i).map V.str)))
      ⟨k7.mut hE0, pen6.new hE, upd_same⟩ (fun i H2 hi ⟨kk, pn, hc⟩ => ?_) (fun H2 ⟨kk, pn, hc⟩ => ?_)
    · refine ⟨rfl, ?_⟩
      refine ⟨_, rfl, _, rfl, _, rfl, _, rfl, hws, _, rfl, _, rfl, _, rfl, _, rfl, _, _, rfl, rfl, .inl ⟨by omega, by omega⟩, _, _, rfl, rfl, _, _, rfl, rfl, (by show (0 : Int) < 26; decide), ?_⟩
      have g0 : 0 ≤ ((f : Int) + (b : Int) * (0 + (i : Int))) % 26 := Int.emod_nonneg _ (by omega)
      have g1 : ((f : Int) + (b : Int) * (0 + (i : Int))) % 26 < 26 := Int.emod_lt_of_pos _ (by omega)
      have gz : (97 + (((f : Int) + (b : Int) * (0 + (i : Int))) % 26).toNat) = 97 + (f + b * i) % 26 := by
        have e : ((f : Int) + (b : Int) * (0 + (i : Int))) % 26 = (((f + b * i) % 26 : Nat) : Int) := by
          rw [Int.zero_add]
          norm_cast
        rw [e]
        omega
      have hw8 : word.length ≤ 8 := by omega
      have c1 := cutS_length word none (some (ka : Int))
      have c2 := cutS_length word (some ((ka : Int) + 1)) none
      have o1 : (⟨#[97 + (((f : Int) + (b : Int) * (0 + (i : Int))) % 26).toNat]⟩ : Str).length = 1 := rfl
      refine ⟨_, _, _, rfl, rfl, letters_len, letters_at g0 g1, _, _, rfl, rfl, (by rw [o1]; exact Nat.le_of_lt (small1000 (by omega))), ?_⟩
      refine ⟨_, rfl, _, rfl, _, _, rfl, rfl, _, rfl, _, rfl, hws, _, _, rfl, rfl, ?_, ?_⟩
      · rw [Str.length_append, o1]
        exact Nat.le_of_lt (small1000 (by omega))
      · refine ⟨_, hc, (by rw [List.length_map, namesOf_len]; exact small1000 (by omega)), kk.mut hE0, pn.mut hEp hEa, ?_⟩
        rw [upd_same, nameOf_eq hz, gz]
        show some (HO.lst (_ ++ [V.str _])) = _
        unfold namesOf
        rw [List.range_succ, List.map_append, List.map_append]
        rfl
    · have e : (m : Int).toNat = m := by omega
      rw [e] at hc
      have hcs1 : 1 ≤ cs.length := by omega
      exact k E1 _ H2 kk pn hE0 hc (namesOf_len _ _ _ _ _) (namesOf_ok hcs1 (by omega) (by omega) hcs) (namesOf_nodup hm hb6)
end
end Lz

set_option Elab.async false
set_option linter.all false
set_option maxRecDepth 100000
set_option maxHeartbeats 8000000
namespace Lz
open PySem PySem.Spec PyProof.Rows L2
theorem cutV_to (xs : List V) (k : Nat) : cutV xs none (some (k : Int)) = xs.take k := by
  unfold cutV
  rw [HT.sIx_none, HT.sIx_nat, List.drop_zero, Nat.sub_zero]
  by_cases h : k ≤ xs.length
  · rw [Nat.min_eq_left h]
  · rw [Nat.min_eq_right (by omega), List.take_of_length_le (Nat.le_refl _), List.take_of_length_le (by omega)]
theorem cutV_from (xs : List V) (k : Nat) : cutV xs (some (k : Int)) none = xs.drop k := by
  unfold cutV
  rw [HT.sIx_none, HT.sIx_nat]
  by_cases h : k ≤ xs.length
  · rw [Nat.min_eq_left h]
    exact List.take_of_length_le (by rw [List.length_drop]; exact Nat.le_refl _)
  · rw [Nat.min_eq_right (by omega), List.drop_eq_nil_of_le (Nat.le_refl _), List.drop_eq_nil_of_le (by omega)]
    exact List.take_nil
def spPen (K : PySem.W.Frag) : Sp := fun vs H Q _ => ∃ (s : Addr) (ns : List Int), vs = [.ref s] ∧ SqL K H s (ns.map V.int) ∧ ns.length ≤ 63 ∧ ∀ (p a : Addr) (H' : Hp), Same H H' → H p = none → H a = none → PenAt H' p a → Q (.ref p) H'
def spProgram (K : PySem.W.Frag) : Sp := fun vs H Q _ => ∃ (p a : Addr), vs = [.ref p] ∧ PenAt H p a ∧ ∀ (v : V) (fs : List Fn) (d : Lz.P) (H' : Hp), Kp [p] H H' → PenAt H' p a → Dp K H' v (progD fs d) → Prog fs d → Q v H'
theorem fd_fz : ∀ fs : List Fn, fzAll (fs.map fD) = true
  | [] => rfl
  | f :: r => by
    show ((true && (fzAll (f.2.1.map .str) && (fz f.2.2.data && true))) && fzAll (r.map fD)) = true
    rw [fd_fz r, strs_fz, data_fz]
    rfl
section
variable {P : Program} {w : World} {K : PySem.W.Frag} {mg : Str → Option Value} {base : Heap} {f : Addr} {fd : FuncData}
abbrev sLPen : Stmt := topS 15
theorem scLPen : FnScope ["_law_script"] ["_law_script"] (defScope sLPen) := ⟨rfl, rfl, rfl, by decide +kernel, rfl, by decide +kernel, by decide +kernel⟩
theorem ok_pen (F : Fun K "_law_pen" "_law_pen" sLPen f fd) (B : Bt mg) : FnOk P w K mg base CX0 1 f fd ["_law_script"] (spPen K) := by
  have mlist := B.list
  refine F.ok scLPen (fun vs H Q E h => ?_) (fun cdv A outer s H vs Q E hr h => ?_)
  · obtain ⟨s, ns, rfl, _⟩ := h
    rfl
  obtain ⟨s0, ns, rfl, hS, hlen, k⟩ := h
  refine ⟨_, (pss_one (ps_ret (pe_lst (pa_cons (pe_callTy (call_listK (K := K) rfl) (by rfl) mlist (by decide +kernel) (pa_cons (pe_slice (sl_listK (K := K) rfl) (pv 0) po_none (po_some pe_int)) pa_nil)) (pa_cons pe_int (pa_cons pe_int pa_nil)))))), ?_⟩
  refine ⟨_, rfl, _, rfl, s0, _, rfl, hS, fun l hl => ?_⟩
  have s1 : Same H (upd H l (.lst (cutV (ns.map V.int) none (some 63)))) := same_new hl
  have ec : cutV (ns.map V.int) none (some 63) = ns.map V.int := by
    have := cutV_to (ns.map V.int) 63
    rw [List.take_of_length_le (by rw [List.length_map]; exact hlen)] at this
    exact this
  refine ⟨l, _, rfl, .inl (SqL.of upd_same), fun a ha => ?_⟩
  have s2 := same_new (o := .lst (cutV (ns.map V.int) none (some 63))) ha
  refine ⟨(by show 3 ≤ sizeLine; decide), fun p hp => ?_⟩
  have s3 := same_new (o := .lst [.ref a, .int 0, .int 0]) hp
  have hap : a ≠ p := fun e => by
    rw [← e, upd_same] at hp
    cases hp
  refine k p a _ (s1.trans (s2.trans s3)) ((s1.trans s2).free hp) (s1.free ha) ⟨ns, 0, 0, upd_same, ?_, hlen, by omega, by omega⟩
  rw [upd_ne hap, upd_same, ec]
abbrev sLProgram : Stmt := topS 26
theorem scLProgram : FnScope ["_law_pen_here", "_law_names_here", "_law_world", "_law_functions", "_law_name", "_law_wanted", "_law_stock", "_law_things"] ["_law_pen_here"] (defScope sLProgram) := ⟨rfl, rfl, rfl, by decide +kernel, rfl, by decide +kernel, by decide +kernel⟩
theorem ok_program {j : Nat} (hj : 3 ≤ j) (F : Fun K "_law_program" "_law_program" sLProgram f fd) (B : Bt mg) (CLDraw : C8.Cal P w K mg base 1 "_law_draw" (spDraw K) []) (CLNames : C8.Cal P w K mg base 2 "_law_names" (spNames K) [])
    (CLBody : C8.Cal P w K mg base j "_law_body" (spBody K) []) : FnOk P w K mg base CX0 (j + 1) f fd ["_law_pen_here"] (spProgram K) := by
  have mtup := B.tuple
  refine F.ok scLProgram (fun vs H Q E h => ?_) (fun cdv A outer s H vs Q E hr h => ?_)
  · obtain ⟨p, a, rfl, _⟩ := h
    rfl
  obtain ⟨p, a, rfl, pen0, D⟩ := h
  refine ⟨_, (pss_cons (ps_set (i := 1) scLProgram.nd rfl (.inl rfl) (C8.pe_c CLNames hr (by first | decide | omega) (by rfl) (pa_cons (pv 0) (pa_cons (pe_ix (ix_listK (K := K) rfl) (pe_lst (pa_cons pe_int (pa_cons pe_int (pa_cons pe_int (pa_cons pe_int (pa_cons pe_int (pa_cons pe_int (pa_cons pe_int (pa_cons pe_int pa_nil))))))))) (C8.pe_c CLDraw hr (by first | decide | omega) (by rfl) (pa_cons (pv 0) (pa_cons pe_int pa_nil))) (fun _ _ => rfl)) pa_nil))))
    (pss_cons (ps_setLc (i := 2) (own := [("_law_name", 4)]) rfl scLProgram.nd rfl rfl (sw_true rfl rfl rfl (by decide +kernel)) (pi_listK (K := K) rfl (pv 1)) (blkOk_by (N := ["_law_pen_here", "_law_names_here", "_law_world", "_law_functions", "_law_name", "_law_wanted", "_law_stock", "_law_things"]) (sc := defScope sLProgram) (by decide +kernel)) (fun _ _ _ _ _ => (pg_name (i := 4) scLProgram.nd rfl (.inl rfl))) (fun _ _ _ _ _ => pts_nil) (fun _ _ _ _ _ => (pe_tup (pa_cons (pv 4) (pa_cons (pe_ix (ix_listK (K := K) rfl) (pe_lst (pa_cons pe_int (pa_cons pe_int (pa_cons pe_int (pa_cons pe_int (pa_cons pe_int (pa_cons pe_int (pa_cons pe_int pa_nil)))))))) (C8.pe_c CLDraw hr (by first | decide | omega) (by rfl) (pa_cons (pv 0) (pa_cons pe_int pa_nil))) (fun _ _ => rfl)) pa_nil)))))
    (pss_cons (ps_set (i := 3) scLProgram.nd rfl (.inl rfl) (pe_lst pa_nil))
    (pss_cons (ps_for PassesOwn.never rfl (pi_listK (K := K) rfl (pv 2)) (pg_tupK (K := K) (n := 2) rfl rfl (pgs_cons (pg_name (i := 4) scLProgram.nd rfl (.inl rfl)) (pgs_cons (pg_name (i := 5) scLProgram.nd rfl (.inl rfl)) pgs_nil))) (pss_cons (ps_set (i := 6) scLProgram.nd rfl (.inl rfl) (C8.pe_c CLNames hr (by first | decide | omega) (by rfl) (pa_cons (pv 0) (pa_cons pe_int pa_nil))))
    (pss_cons (ps_set (i := 7) scLProgram.nd rfl (.inl rfl) (pe_slice (sl_listK (K := K) rfl) (pv 6) po_none (po_some (pv 5))))
    (pss_one (ps_expr (pe_bmK (K := K) rfl PySem.F.plainAttrs_list PySem.F.slot_list_append PySem.F.type_list_append mt_append (pv 3) (pa_cons (pe_tup (pa_cons (pv 4) (pa_cons (pe_callTy (call_tupleK (K := K) rfl) (by rfl) mtup (by decide +kernel) (pa_cons (pv 7) pa_nil)) (pa_cons (C8.pe_c CLBody hr (by first | decide | omega) (by rfl) (pa_cons (pv 0) (pa_cons (pv 2) (pa_cons (pv 4) (pa_cons (pv 7) (pa_cons (pe_slice (sl_listK (K := K) rfl) (pv 6) (po_some (pv 5)) po_none) pa_nil)))))) pa_nil)))) pa_nil)))))))
    (pss_one (ps_ret (pe_tup (pa_cons (pe_callTy (call_tupleK (K := K) rfl) (by rfl) mtup (by decide +kernel) (pa_cons (pv 3) pa_nil)) (pa_cons (C8.pe_c CLBody hr (by first | decide | omega) (by rfl) (pa_cons (pv 0) (pa_cons (pv 2) (pa_cons pe_str (pa_cons (pe_lst pa_nil) (pa_cons (C8.pe_c CLNames hr (by first | decide | omega) (by rfl) (pa_cons (pv 0) (pa_cons pe_int pa_nil))) pa_nil)))))) pa_nil))))))))), ?_⟩
  -- the functions' names
  refine ⟨_, rfl, (by show 8 ≤ sizeLine; decide), fun l hl => ?_⟩
  have pen1 := pen0.new (o := .lst [.int 0, .int 1, .int 2, .int 3, .int 4, .int 2, .int 3, .int 8]) hl
  have hl1 : (upd H l (.lst [.int 0, .int 1, .int 2, .int 3, .int 4, .int 2, .int 3, .int 8])) l = some (.lst [.int 0, .int 1, .int 2, .int 3, .int 4, .int 2, .int 3, .int 8]) := upd_same
  have k1 : Kp [p] H (upd H l (.lst [.int 0, .int 1, .int 2, .int 3, .int 4, .int 2, .int 3, .int 8])) := Kp.new hl
  refine ⟨_, rfl, p, a, 8, rfl, pen1, (by decide), (by decide), fun g H2 k2 pen2 g0 g1 => ?_⟩
  have hl2 := k2.lst hl1 (not1 (pen0.apart hl).1)
  have k2 := k1.trans k2
  obtain ⟨m, hm, hm8⟩ : ∃ m : Nat, ([.int 0, .int 1, .int 2, .int 3, .int 4, .int 2, .int 3, .int 8] : List V)[g.toNat]? = some (.int (m : Int)) ∧ m ≤ 8 := by
    have h0 : g.toNat < 8 := by omega
    generalize g.toNat = j at h0
    match j, h0 with
    | 0, _ => exact ⟨0, rfl, by decide⟩
    | 1, _ => exact ⟨1, rfl, by decide⟩
    | 2, _ => exact ⟨2, rfl, by decide⟩
    | 3, _ => exact ⟨3, rfl, by decide⟩
    | 4, _ => exact ⟨4, rfl, by decide⟩
    | 5, _ => exact ⟨2, rfl, by decide⟩
    | 6, _ => exact ⟨3, rfl, by decide⟩
    | 7, _ => exact ⟨8, rfl, by decide⟩
  refine ⟨l, _, _, _, rfl, rfl, SqL.of hl2, at_of (j := g.toNat) (by omega) hm, ?_⟩
  refine ⟨p, a, m, rfl, pen2, (by omega), fun ln xs H3 k3 pen3 hln0 hln3 hxl hxo hxn => ?_⟩
  have hlnH : H ln = none := k2.free hln0 (not1 (pen2.apart hln0).1)
  have k3 := k2.trans k3
  have nlnp := (pen2.apart hln0).1
  have nlna := (pen2.apart hln0).2
  clear hl1 hl2 k1 k2 pen1 pen2 hl hln0
  -- the world
  refine ⟨_, rfl, ln, rfl, ⟨_, SqL.of hln3⟩, fun wl hwl => ?_⟩
  have nwp := (pen3.apart hwl).1
  have nwa := (pen3.apart hwl).2
  have nwl : ln ≠ wl := ne_of_none hln3 hwl
  have hwlH : H wl = none := k3.free hwl (not1 nwp)
  refine lc_list (K := K) (a := ln) (xs := xs.map V.str) (fun i H' => Kp [p] H H' ∧ PenAt H' p a ∧ H' ln = some (.lst (xs.map V.str)) ∧ ∃ (ws : List V) (ks : List Int), H' wl = some (.lst ws) ∧ ks.length = i ∧ (∀ k, k ∈ ks → 0 ≤ k ∧ k ≤ 4) ∧ DpAll K H' ws (((xs.take i).zip ks).map wD))
    ⟨k3.mut hwlH, pen3.new hwl, by rw [upd_ne nwl]; exact hln3, [], [], upd_same, rfl, (fun k m => nomatch m), .nil⟩ (fun i H' _ ⟨_, _, h, _⟩ => SqL.of h) ?_ ?_
  · rintro i x H4 hi ⟨k4, pen4, hln4, ws, ks, hws, hks, hk4, hdw⟩
    obtain ⟨nx, hnx, rfl⟩ : ∃ nx, xs[i]? = some nx ∧ x = V.str nx := by
      rw [List.getElem?_map] at hi
      cases e : xs[i]? with
      | none => rw [e] at hi; cases hi
      | some y => rw [e] at hi; exact ⟨y, rfl, (Option.some.inj hi).symm⟩
    have hil := (List.getElem?_eq_some_iff.mp hnx).1
    refine ⟨rfl, ?_⟩
    refine ⟨_, rfl, (by show 7 ≤ sizeLine; decide), fun l hl => ?_⟩
    have pen5 := pen4.new (o := .lst [.int 1, .int 0, .int 1, .int 2, .int 2, .int 3, .int 4]) hl
    have hl5 : (upd H4 l (.lst [.int 1, .int 0, .int 1, .int 2, .int 2, .int 3, .int 4])) l = some (.lst [.int 1, .int 0, .int 1, .int 2, .int 2, .int 3, .int 4]) := upd_same
    have k5 : Kp [p] H4 (upd H4 l (.lst [.int 1, .int 0, .int 1, .int 2, .int 2, .int 3, .int 4])) := Kp.new hl
    refine ⟨_, rfl, p, a, 7, rfl, pen5, (by decide), (by decide), fun g H6 k6 pen6 g0 g1 => ?_⟩
    have hl6 := k6.lst hl5 (not1 (pen4.apart hl).1)
    have k6 := k5.trans k6
    obtain ⟨z, hz, hz4⟩ : ∃ z : Int, ([.int 1, .int 0, .int 1, .int 2, .int 2, .int 3, .int 4] : List V)[g.toNat]? = some (.int z) ∧ 0 ≤ z ∧ z ≤ 4 := by
      have h0 : g.toNat < 7 := by omega
      generalize g.toNat = j at h0
      match j, h0 with
      | 0, _ => exact ⟨_, rfl, by decide⟩
      | 1, _ => exact ⟨_, rfl, by decide⟩
      | 2, _ => exact ⟨_, rfl, by decide⟩
      | 3, _ => exact ⟨_, rfl, by decide⟩
      | 4, _ => exact ⟨_, rfl, by decide⟩
      | 5, _ => exact ⟨_, rfl, by decide⟩
      | 6, _ => exact ⟨_, rfl, by decide⟩
    refine ⟨l, _, _, _, rfl, rfl, SqL.of hl6, at_of (j := g.toNat) (by omega) hz, (by show 2 ≤ sizeLine; decide), fun q hq => ?_⟩
    have k7 := k6.trans (Kp.new (S := [p]) (o := .tup [.str nx, .int z]) hq)
    have hws7 := k7.lst hws (not1 nwp)
    have hln7 := k7.lst hln4 (not1 nlnp)
    have hdw7 := Dp.keepAll k7 _ _ (wds_fz _) hdw
    have hr : Dp K (upd H6 q (.tup [.str nx, .int z])) (.ref q) (wD (nx, z)) := .tup (.inl (.inl upd_same)) (.cons (.str _) (.cons (.int _) .nil))
    have pen7 := pen6.new (o := .tup [.str nx, .int z]) hq
    generalize upd H6 q (.tup [.str nx, .int z]) = H7 at k7 hws7 hln7 hdw7 hr pen7 ⊢
    have hwl8 : ws.length ≤ 8 := by
      rw [hdw.length, List.length_map, List.length_zip, List.length_take]
      omega
    have kput : Kp [wl] H7 (upd H7 wl (.lst (ws ++ [.ref q]))) := Kp.put hws7 List.mem_cons_self
    refine ⟨_, hws7, small1000 (by omega), (k4.trans k7).mut hwlH, pen7.mut nwp nwa, by rw [upd_ne nwl]; exact hln7, ws ++ [.ref q], ks ++ [z], upd_same, by rw [List.length_append, hks]; rfl, ?_, ?_⟩
    · intro k m
      rcases List.mem_append.mp m with m | m
      · exact hk4 k m
      · rw [List.mem_singleton.mp m]
        exact hz4
    · have e : ((xs.take (i + 1)).zip (ks ++ [z])).map wD = ((xs.take i).zip ks).map wD ++ [wD (nx, z)] := by
        rw [List.take_add_one, hnx]
        show ((xs.take i ++ [nx]).zip (ks ++ [z])).map wD = _
        rw [List.zip_append (by rw [List.length_take]; omega), List.map_append]
        rfl
      rw [e]
      exact (Dp.keepAll kput _ _ (wds_fz _) hdw7).append (.one (Dp.keep kput _ _ rfl hr))
  · rintro H4 ⟨k4, pen4, hln4, ws, ks, hws, hks, hk4, hdw⟩
    rw [List.length_map] at hks hdw
    rw [List.take_length] at hdw
    obtain ⟨W, hW⟩ : ∃ W, W = xs.zip ks := ⟨_, rfl⟩
    rw [← hW] at hdw
    have hWm : W.map (·.1) = xs := by rw [hW]; exact List.map_fst_zip (by omega)
    have hWl : W.length = xs.length := by have := congrArg List.length hWm; rw [List.length_map] at this; exact this
    have hWo : ∀ f, f ∈ W → nmOk f.1 ∧ 0 ≤ f.2 ∧ f.2 ≤ 4 := fun f m => by
      rw [hW] at m
      exact ⟨hxo _ (List.of_mem_zip m).1, hk4 _ (List.of_mem_zip m).2⟩
    have hwt : WAt K H4 wl W := ⟨ws, hws, hdw⟩
    clear hln4 k3 pen3 hln3 hwl nwl
    -- the functions
    refine ⟨Nat.zero_le _, fun lf hlf => ?_⟩
    have pen5 := pen4.new (o := .lst []) hlf
    have nfp := (pen4.apart hlf).1
    have nfa := (pen4.apart hlf).2
    have nfw : wl ≠ lf := ne_of_none hws hlf
    have hlfH : H lf = none := k4.free hlf (not1 nfp)
    have k5 : Kp [p] H (upd H4 lf (.lst [])) := k4.mut hlfH
    have hwt5 : WAt K (upd H4 lf (.lst [])) wl W := hwt.keep (Kp.new (S := []) hlf) (fun m => nomatch m)
    have hf5 : (upd H4 lf (.lst [])) lf = some (.lst []) := upd_same
    have hws5 : (upd H4 lf (.lst [])) wl = some (.lst ws) := by rw [upd_ne nfw]; exact hws
    generalize upd H4 lf (.lst []) = H5 at pen5 k5 hwt5 hf5 hws5 ⊢
    refine ⟨_, rfl, wl, rfl, ⟨_, SqL.of hws5⟩, for_list (K := K) (a := wl) (xs := ws) (fun i σ H' => ∃ (fs : List Fn) (rs : List V) (v4 v5 v6 v7 : Option V), σ = [some (.ref p), some (.ref ln), some (.ref wl), some (.ref lf), v4, v5, v6, v7] ∧ Kp [p] H H' ∧ PenAt H' p a ∧ WAt K H' wl W ∧ H' wl = some (.lst ws) ∧
        H' lf = some (.lst rs) ∧ DpAll K H' rs (fs.map fD) ∧ fs.map (·.1) = (W.take i).map (·.1) ∧ ∀ f, f ∈ fs → FnDr W f)
      ⟨[], [], none, none, none, none, rfl, k5, pen5, hwt5, hws5, hf5, .nil, rfl, (fun f m => nomatch m)⟩ (fun i σ H' _ ⟨_, _, _, _, _, _, _, _, _, _, h, _⟩ => SqL.of h) ?_ ?_⟩
    · rintro i x σ H6 hi ⟨fs, rs, v4, v5, v6, v7, rfl, k6, pen6, hwt6, hws6, hf6, hd6, hfs, hfd⟩
      obtain ⟨ws', hws', hdw'⟩ := id hwt6
      obtain rfl : ws' = ws := by
        have := hws'.symm.trans hws6
        injection this with e
        exact HO.lst.inj e
      obtain ⟨dd, hdd, hdx⟩ := hdw'.at hi
      rw [List.getElem?_map] at hdd
      obtain ⟨⟨fn, wz⟩, hfw, rfl⟩ : ∃ fw, W[i]? = some fw ∧ dd = wD fw := by
        cases e : W[i]? with
        | none => rw [e] at hdd; cases hdd
        | some y => rw [e] at hdd; exact ⟨y, rfl, (Option.some.inj hdd).symm⟩
      have hmem : (fn, wz) ∈ W := List.mem_of_getElem? hfw
      obtain ⟨hfn, hz0, hz4⟩ := hWo _ hmem
      obtain ⟨n, rfl⟩ : ∃ n : Nat, wz = (n : Int) := ⟨wz.toNat, by have : 0 ≤ wz := hz0; omega⟩
      have hn4 : n ≤ 4 := by have : (n : Int) ≤ 4 := hz4; omega
      obtain ⟨t, xs', rfl, ht, hxs⟩ := hdx.tup_of
      obtain rfl : xs' = [.str fn, .int n] := by
        cases hxs with
        | cons h1 h2 =>
          cases h1
          cases h2 with
          | cons h3 h4 =>
            cases h3
            cases h4
            rfl
      refine ⟨t, _, rfl, ht, rfl, _, _, rfl, _, _, rfl, rfl, ?_⟩
      -- the stock, the things
      refine ⟨_, rfl, p, a, 26, rfl, pen6, (by decide), fun ls stk H7 k7 pen7 hls0 hls7 hsl hso hsn => ?_⟩
      have hstk : Stock stk := ⟨hsl, hsn, hso⟩
      have nlsp := (pen6.apart hls0).1
      have nlsa := (pen6.apart hls0).2
      have nlsw : wl ≠ ls := ne_of_none hws6 hls0
      have nlsf : lf ≠ ls := ne_of_none hf6 hls0
      refine ⟨_, rfl, _, rfl, _, rfl, ls, _, rfl, SqL.of hls7, fun lt hlt => ?_⟩
      rw [cutV_to, ← List.map_take]
      have pen8 := pen7.new (o := .lst ((stk.take n).map V.str)) hlt
      have k8 : Kp [p] H6 (upd H7 lt (.lst ((stk.take n).map V.str))) := k7.trans (Kp.new hlt)
      have hls8 : (upd H7 lt (.lst ((stk.take n).map V.str))) ls = some (.lst (stk.map V.str)) := by rw [upd_ne (ne_of_none hls7 hlt)]; exact hls7
      have hlt8 : (upd H7 lt (.lst ((stk.take n).map V.str))) lt = some (.lst ((stk.take n).map V.str)) := upd_same
      have nltp := (pen7.apart hlt).1
      generalize upd H7 lt (.lst ((stk.take n).map V.str)) = H8 at pen8 k8 hls8 hlt8 ⊢
      have hwt8 := hwt6.keep k8 (not1 (fun e => nwp e))
      have hws8 := k8.lst hws6 (not1 nwp)
      have hf8 := k8.lst hf6 (not1 nfp)
      have hd8 := Dp.keepAll k8 _ _ (fd_fz _) hd6
      have hfl : rs.length ≤ 8 := by
        have e := congrArg List.length hfs
        rw [List.length_map, List.length_map, List.length_take] at e
        rw [hd6.length, List.length_map]
        omega
      -- the function
      refine ⟨_, rfl, .inl ⟨rfl, _, SqL.of hf8⟩, _, rfl, _, rfl, lt, _, rfl, .inl ⟨SqL.of hlt8, fun tt htt => ?_⟩⟩
      have pen9 := pen8.new (o := .tup ((stk.take n).map V.str)) htt
      have k9 : Kp [p] H8 (upd H8 tt (.tup ((stk.take n).map V.str))) := Kp.new htt
      have hdt : Dp K (upd H8 tt (.tup ((stk.take n).map V.str))) (.ref tt) (.tuple ((stk.take n).map .str)) := .tup (.inl (.inl upd_same)) (DpAll.strs _)
      refine ⟨_, rfl, _, rfl, _, rfl, _, rfl, _, rfl, _, rfl, _, rfl, ls, _, rfl, SqL.of (k9.lst hls8 (not1 nlsp)), fun st hst => ?_⟩
      rw [cutV_from, ← List.map_drop]
      have pen10 := pen9.new (o := .lst ((stk.drop n).map V.str)) hst
      have k10 : Kp [p] H8 (upd (upd H8 tt (.tup ((stk.take n).map V.str))) st (.lst ((stk.drop n).map V.str))) := k9.trans (Kp.new hst)
      have hst10 : (upd (upd H8 tt (.tup ((stk.take n).map V.str))) st (.lst ((stk.drop n).map V.str))) st = some (.lst ((stk.drop n).map V.str)) := upd_same
      have hst8 : H8 st = none := (Kp.new (S := []) (o := .tup ((stk.take n).map V.str)) htt).free hst (fun m => nomatch m)
      have hdt10 := Dp.keep (Kp.new (S := []) (o := .lst ((stk.drop n).map V.str)) hst) _ _ (by show fzAll _ = true; exact strs_fz _) hdt
      have nst := pen9.apart hst
      have wst : wl ≠ st := ne_of_none hws8 hst8
      have tst : lt ≠ st := ne_of_none hlt8 hst8
      have fst' : lf ≠ st := ne_of_none hf8 hst8
      generalize upd (upd H8 tt (.tup ((stk.take n).map V.str))) st (.lst ((stk.drop n).map V.str)) = H10 at pen10 k10 hst10 hdt10 ⊢
      have Eb0 : Eb K H10 W (stk.take n) p a wl lt st (stk.drop n) :=
        ⟨pen10, hwt8.keep k10 (not1 nwp), k10.lst hlt8 (not1 nltp), hst10, not2 nwp wst, not2 nltp tst, nst.2.symm, nst.1.symm, hWo, hstk.take n, hstk.drop n, by omega, by rw [List.length_take]; omega, by rw [List.length_drop]; omega⟩
      refine ⟨p, a, wl, lt, st, fn, W, stk.take n, stk.drop n, rfl, Eb0, fun v d H11 k11 pen11 hd11 hb => ?_⟩
      have hk11 : Kp [p] H8 H11 := Kp.drop k10 hst8 k11 fun x m => by
        rcases List.mem_cons.mp m with e | m
        · exact .inl (by rw [e]; exact List.mem_cons_self)
        · exact .inr (List.mem_singleton.mp m)
      have hdt11 := Dp.keep k11 _ _ (by show fzAll _ = true; exact strs_fz _) hdt10
      refine ⟨(by show 3 ≤ sizeLine; decide), fun q hq => ?_⟩
      have k12 : Kp [p] H8 (upd H11 q (.tup [.str fn, .ref tt, v])) := hk11.trans (Kp.new hq)
      have hrow : Dp K (upd H11 q (.tup [.str fn, .ref tt, v])) (.ref q) (fD (fn, stk.take n, d)) := Dp.newT hq (.cons (.str _) (.cons hdt11 (.cons hd11 .nil))) (by
        show (true && (fzAll _ && (fz _ && true))) = true
        rw [strs_fz, data_fz]
        rfl)
      have pen12 := pen11.new (o := .tup [.str fn, .ref tt, v]) hq
      have hf12 := k12.lst hf8 (not1 nfp)
      have hws12 := k12.lst hws8 (not1 nwp)
      have hwt12 := hwt8.keep k12 (not1 nwp)
      have hd12 := Dp.keepAll k12 _ _ (fd_fz _) hd8
      generalize upd H11 q (.tup [.str fn, .ref tt, v]) = H12 at k12 hrow pen12 hf12 hws12 hwt12 hd12 ⊢
      refine ⟨lf, _, _, rfl, rfl, hf12, small1000 (by omega), ?_⟩
      have kput : Kp [lf] H12 (upd H12 lf (.lst (rs ++ [.ref q]))) := Kp.put hf12 List.mem_cons_self
      refine ⟨fs ++ [(fn, stk.take n, d)], rs ++ [.ref q], _, _, _, _, rfl, (k6.trans (k8.trans k12)).mut hlfH, pen12.mut nfp nfa, hwt12.keep kput (not1 nfw), by rw [upd_ne nfw]; exact hws12, upd_same, ?_, ?_, ?_⟩
      · rw [List.map_append]
        exact (Dp.keepAll kput _ _ (fd_fz _) hd12).append (.one (Dp.keep kput _ _ (by
          have := fd_fz [(fn, stk.take n, d)]
          show fz (fD (fn, stk.take n, d)) = true
          exact fzAll_iff.mp this _ List.mem_cons_self) hrow))
      · rw [List.map_append, hfs, List.take_add_one, hfw, List.map_append]
        rfl
      · intro f m
        rcases List.mem_append.mp m with m | m
        · exact hfd f m
        · rw [List.mem_singleton.mp m]
          exact ⟨n, stk, hmem, hn4, hstk, rfl, hb⟩
    · rintro σ H6 ⟨fs, rs, v4, v5, v6, v7, rfl, k6, pen6, hwt6, hws6, hf6, hd6, hfs, hfd⟩
      have hwlen : ws.length = W.length := by rw [hdw.length, List.length_map]
      rw [hwlen, List.take_length] at hfs
      -- the tuple of functions
      refine ⟨_, rfl, lf, _, rfl, .inl ⟨SqL.of hf6, fun tt htt => ?_⟩⟩
      have k7 : Kp [p] H6 (upd H6 tt (.tup rs)) := Kp.new htt
      have hdt : Dp K (upd H6 tt (.tup rs)) (.ref tt) (.tuple (fs.map fD)) := Dp.newT htt hd6 (fd_fz _)
      have pen7 := pen6.new (o := .tup rs) htt
      have hwt7 := hwt6.keep k7 (not1 nwp)
      have k7 := k6.trans k7
      generalize upd H6 tt (.tup rs) = H7 at k7 hdt pen7 hwt7 ⊢
      -- asked
      refine ⟨_, rfl, _, rfl, Nat.zero_le _, fun lt hlt => ?_⟩
      have k8 : Kp [p] H7 (upd H7 lt (.lst [])) := Kp.new hlt
      have pen8 := pen7.new (o := .lst []) hlt
      have hlt8 : (upd H7 lt (.lst [])) lt = some (.lst []) := upd_same
      have hwt8 := hwt7.keep k8 (not1 nwp)
      have hdt8 := Dp.keep k8 _ _ (by show fzAll _ = true; exact fd_fz _) hdt
      have nlt := pen7.apart hlt
      have k8 := k7.trans k8
      generalize upd H7 lt (.lst []) = H8 at k8 pen8 hlt8 hwt8 hdt8 ⊢
      refine ⟨_, rfl, p, a, 26, rfl, pen8, (by decide), fun st stk H9 k9 pen9 hst0 hst9 hsl hso hsn => ?_⟩
      have hstk : Stock stk := ⟨hsl, hsn, hso⟩
      have nst := pen8.apart hst0
      obtain ⟨ws8, hws8, _⟩ := id hwt8
      have wst : wl ≠ st := ne_of_none hws8 hst0
      have tst : lt ≠ st := ne_of_none hlt8 hst0
      have hstH : H st = none := k8.free hst0 (not1 nst.1)
      have Eb0 : Eb K H9 W [] p a wl lt st stk :=
        ⟨pen9, hwt8.keep k9 (not1 nwp), k9.lst hlt8 (not1 nlt.1), hst9, not2 nwp wst, not2 nlt.1 tst, nst.2.symm, nst.1.symm, hWo, (fun x m => nomatch m), hso, by omega, Nat.zero_le _, by omega⟩
      refine ⟨p, a, wl, lt, st, "", W, [], stk, rfl, Eb0, fun v d H10 k10 pen10 hd10 hb => ?_⟩
      have hk10 : Kp [p] H H10 := Kp.drop (k8.trans k9) hstH k10 fun x m => by
        rcases List.mem_cons.mp m with e | m
        · exact .inl (by rw [e]; exact List.mem_cons_self)
        · exact .inr (List.mem_singleton.mp m)
      have hdt10 := Dp.keep k10 _ _ (by show fzAll _ = true; exact fd_fz _) (Dp.keep k9 _ _ (by show fzAll _ = true; exact fd_fz _) hdt8)
      refine ⟨(by show 2 ≤ sizeLine; decide), fun q hq => ?_⟩
      refine D _ fs d _ (hk10.trans (Kp.new hq)) (pen10.new hq) (Dp.newT hq (.cons hdt10 (.cons hd10 .nil)) ?_) ⟨W, ?_, ?_, by omega, hWo, hfd, stk, hstk, hb⟩
      · show (fzAll _ && (fz _ && true)) = true
        rw [fd_fz, data_fz]
        rfl
      · rw [hfs]
      · rw [hWm]
        exact hxn
end
end Lz

set_option Elab.async false
set_option linter.all false
set_option maxRecDepth 100000
set_option maxHeartbeats 8000000
namespace Lz
open PySem PySem.Spec PyProof.Rows L2
def spFuns (K : PySem.W.Frag) : Sp := fun vs H Q _ => ∃ (v : V) (fs : List Fn) (d : Lz.P), vs = [v] ∧ Dp K H v (progD fs d) ∧ PrOk fs d ∧ ∀ (l : Addr) (xs : List V) (H' : Hp), Kp [] H H' → H l = none → H' l = some (.lst xs) → DpAll K H' xs ((fnsOf fs d).map fD) → Q (.ref l) H'
def spNumOf (K : PySem.W.Frag) : Sp := fun vs H Q _ => ∃ (v : V) (fs : List Fn) (d : Lz.P) (i : Nat) (g : Fn), vs = [v, .str g.1] ∧ Dp K H v (progD fs d) ∧ PrOk fs d ∧ (fnsOf fs d)[i]? = some g ∧ ∀ H', Kp [] H H' → Q (.int (i : Nat)) H'
def spFunOf (K : PySem.W.Frag) : Sp := fun vs H Q _ => ∃ (v : V) (fs : List Fn) (d : Lz.P) (i : Nat) (g : Fn), vs = [v, .str g.1] ∧ Dp K H v (progD fs d) ∧ PrOk fs d ∧ (fnsOf fs d)[i]? = some g ∧ ∀ (t : V) (H' : Hp), Kp [] H H' → Dp K H' t (fD g) → Q t H'
def spWants (K : PySem.W.Frag) : Sp := fun vs H Q _ => ∃ (v : V) (fs : List Fn) (d : Lz.P) (i : Nat) (g : Fn), vs = [v, .str g.1] ∧ Dp K H v (progD fs d) ∧ PrOk fs d ∧ (fnsOf fs d)[i]? = some g ∧ ∀ H', Kp [] H H' → Q (.int (g.2.1.length : Nat)) H'
def spMost (K : PySem.W.Frag) : Sp := fun vs H Q _ => ∃ (v : V) (fs : List Fn) (d : Lz.P), vs = [v] ∧ Dp K H v (progD fs d) ∧ PrOk fs d ∧ ∀ (m : Nat) (H' : Hp), Kp [] H H' → (∀ g, g ∈ fs → g.2.1.length ≤ m) → Q (.int (m : Nat)) H'
section
variable {P : Program} {w : World} {K : PySem.W.Frag} {mg : Str → Option Value} {base : Heap} {f : Addr} {fd : FuncData}
abbrev sAllFunctions : Stmt := topS 8
theorem scAllFunctions : FnScope ["program", "functions", "asked"] ["program"] (defScope sAllFunctions) := ⟨rfl, rfl, rfl, by decide +kernel, rfl, by decide +kernel, by decide +kernel⟩
theorem ok_funs (F : Fun K "all_functions" "all_functions" sAllFunctions f fd) : FnOk P w K mg base CX0 1 f fd ["program"] (spFuns K) := by
  refine F.ok scAllFunctions (fun vs H Q E h => ?_) (fun cdv A outer s H vs Q E hr h => ?_)
  · obtain ⟨v, fs, d, rfl, _⟩ := h
    rfl
  obtain ⟨v, fs, d, rfl, hd, hok, q⟩ := h
  refine ⟨_, (pss_cons (ps_asg (pv 0) (pg_tupK (K := K) (n := 2) rfl rfl (pgs_cons (pg_name (i := 1) scAllFunctions.nd rfl (.inl rfl)) (pgs_cons (pg_name (i := 2) scAllFunctions.nd rfl (.inl rfl)) pgs_nil))))
    (pss_one (ps_ret (pe_lst (StX.pa_starK (K := K) rfl (pv 1) (pa_cons (pe_tup (pa_cons pe_str (pa_cons (pe_tup pa_nil) (pa_cons (pv 2) pa_nil)))) pa_nil)))))), ?_⟩
  obtain ⟨pr, xs, rfl, hpr, hxs⟩ := Dp.tup_of (ds := [.tuple (fs.map fD), d.data]) hd
  obtain ⟨ft, rs, vd, rfl, hft, hrs, hvd⟩ : ∃ ft rs vd, xs = [.ref ft, vd] ∧ SqT K H ft rs ∧ DpAll K H rs (fs.map fD) ∧ Dp K H vd d.data := by
    cases hxs with
    | cons h1 h2 =>
      obtain ⟨ft, rs, rfl, hft, hrs⟩ := h1.tup_of
      cases h2 with
      | cons h3 h4 =>
        cases h4
        exact ⟨ft, rs, _, rfl, hft, hrs, h3⟩
  have hrl : rs.length = fs.length := by rw [hrs.length, List.length_map]
  have h8 := hok.len
  refine ⟨_, rfl, pr, _, rfl, hpr, rfl, _, _, rfl, _, _, rfl, rfl, ?_⟩
  refine ⟨_, rfl, ft, _, rfl, .inl hft, (Nat.zero_le _), fun e he => ?_⟩
  refine ⟨_, rfl, (by show 3 ≤ sizeLine; decide), fun t ht => ?_⟩
  have k1 : Kp [] H (upd H e (.tup [])) := Kp.new he
  have k2 := k1.trans (Kp.new (S := []) (o := .tup [.str "", .ref e, vd]) ht)
  have hte : (upd (upd H e (.tup [])) t (.tup [.str "", .ref e, vd])) e = some (.tup []) := by rw [upd_ne (ne_of_none upd_same ht)]; exact upd_same
  have hlast : Dp K (upd (upd H e (.tup [])) t (.tup [.str "", .ref e, vd])) (.ref t) (fD (askedFn d)) := .tup (.inl (.inl upd_same)) (.cons (.str _) (.cons (.tup (.inl (.inl hte)) .nil) (.cons (Dp.keep k2 _ _ (data_fz _) hvd) .nil)))
  have hdx := (Dp.keepAll k2 _ _ (fdU_fz _) hrs).append (.one hlast)
  generalize upd (upd H e (.tup [])) t (.tup [.str "", .ref e, vd]) = H2 at k2 hdx ⊢
  refine ⟨by rw [List.length_append, hrl]; show fs.length + 1 ≤ sizeLine; exact Nat.le_of_lt (small1000 (by omega)), fun l hl => ?_⟩
  have k3 := Kp.new (S := []) (o := .lst (rs ++ [.ref t])) hl
  refine q l _ _ (k2.trans k3) (k2.free hl (fun m => nomatch m)) upd_same ?_
  have ee : (fnsOf fs d).map fD = fs.map fD ++ [fD (askedFn d)] := by
    show (fs ++ [askedFn d]).map fD = _
    rw [List.map_append]
    rfl
  rw [ee]
  refine Dp.keepAll k3 _ _ ?_ hdx
  have := fdU_fz (fnsOf fs d)
  rw [ee] at this
  exact this
end
end Lz

set_option Elab.async false
set_option linter.all false
set_option maxRecDepth 100000
set_option maxHeartbeats 4000000
/-! Dicts whose keys are tuples within tuples, as an object of the hand layer. -/
namespace NKd
open PySem PySem.Spec PyProof.Rows L2
mutual
/-- this value is this key, as the tuples stand in the heap -/
inductive KV1 (H : Hp) : NestedKey → V → Prop
  | int (i : Int) : KV1 H (.num i) (.int i)
  | str (x : Str) : KV1 H (.text x) (.str x)
  | tup {a : Addr} {ks : List NestedKey} {vs : List V} (e : H a = some (.tup vs)) (h : KVs H ks vs) : KV1 H (.tup ks) (.ref a)
inductive KVs (H : Hp) : List NestedKey → List V → Prop
  | nil : KVs H [] []
  | cons {k : NestedKey} {v : V} {ks : List NestedKey} {vs : List V} (h : KV1 H k v) (t : KVs H ks vs) : KVs H (k :: ks) (v :: vs)
end
abbrev Rw := NestedKey × Addr × V
def same (p : Rw) (q : NestedKey × Addr × Value) : Prop := p.1 = q.1 ∧ p.2.1 = q.2.1 ∧ RelV p.2.2 q.2.2
/-- a dict at d with these keys, their tuples, these values -/
def tbl (P : Program) (w : World) (d : Addr) (xs : List Rw) : HO := .ext fun h => xs.length ≤ sizeLine ∧ (d == sysModules) = false ∧ ∃ us, Paired same xs us ∧
  ∃ o es ep, h.get? d = some o ∧ o.ExactDict ∧ o.data = .dict es ep ∧ es.toList = us.map (entryOfKey (nestedKind P w)) ∧ (us.map (·.1)).Nodup
def keysIn (H : Hp) (xs : List Rw) : Prop := ∀ x, x ∈ xs → KV1 H x.1 (.ref x.2.1) ∧ x.1.depth ≤ 8
def at? (xs : List Rw) (k : NestedKey) : Option V := (xs.find? fun x => decide (x.1 = k)).map (·.2.2)
section
variable {P : Program} {w : World} {H H' : Hp} {h : Heap}
mutual
theorem KV1.is (ok : HOk P w H h) : ∀ (k : NestedKey) (v : V) (u : Value), KV1 H k v → RelV v u → NestedIs h k u
  | .none, _, _, x, _ => by cases x
  | .num i, _, _, x, r => by
    cases x
    obtain ⟨t, rfl⟩ := r
    exact .int i t
  | .text z, _, _, x, r => by
    cases x
    obtain ⟨t, rfl⟩ := r
    exact .text z t
  | .tup ks, _, _, x, r => by
    cases x with
    | tup e hs =>
      cases r
      obtain ⟨_, its, rv, o, ho, hc, n, hd⟩ := ok _ _ e
      refine .tup ho hc hd ?_
      exact KVs.is ok ks _ _ hs rv
theorem KVs.is (ok : HOk P w H h) : ∀ (ks : List NestedKey) (vs : List V) (us : List Value), KVs H ks vs → Vals vs us → NestedAll h ks us
  | [], _, _, x, r => by
    cases x
    cases r
    exact .nil
  | k :: ks, _, _, x, r => by
    cases x with
    | cons h1 h2 =>
      cases r with
      | cons r1 r2 => exact .cons (KV1.is ok k _ _ h1 r1) (KVs.is ok ks _ _ h2 r2)
end
mutual
theorem KV1.keep (k : ∀ b xs, H b = some (.tup xs) → H' b = some (.tup xs)) : ∀ (n : NestedKey) (v : V), KV1 H n v → KV1 H' n v
  | .none, _, x => by cases x
  | .num i, _, x => by cases x; exact .int i
  | .text z, _, x => by cases x; exact .str z
  | .tup ks, _, x => by
    cases x with
    | tup e hs => exact .tup (k _ _ e) (KVs.keep k ks _ hs)
theorem KVs.keep (k : ∀ b xs, H b = some (.tup xs) → H' b = some (.tup xs)) : ∀ (ns : List NestedKey) (vs : List V), KVs H ns vs → KVs H' ns vs
  | [], _, x => by cases x; exact .nil
  | n :: ns, _, x => by
    cases x with
    | cons h1 h2 => exact .cons (KV1.keep k n _ h1) (KVs.keep k ns _ h2)
end
theorem tbl_ok {d : Addr} {xs : List Rw} (p : xs.length ≤ sizeLine ∧ (d == sysModules) = false ∧ ∃ us, Paired same xs us ∧ ∃ o es ep, h.get? d = some o ∧ o.ExactDict ∧ o.data = .dict es ep ∧ es.toList = us.map (entryOfKey (nestedKind P w)) ∧ (us.map (·.1)).Nodup) : ObjOk P w H h d (tbl P w d xs) := by
  obtain ⟨_, _, us, _, o, _, _, ho, _⟩ := id p
  refine ⟨p, ⟨o, ho⟩, ?_⟩
  rintro h1 h2 ⟨l, n, us, r, o, es, ep, ho, q⟩ k
  exact ⟨l, n, us, r, o, es, ep, k o ho, q⟩
/-- the dict below -/
theorem below {d : Addr} {xs : List Rw} (ok : HOk P w H h) (e : H d = some (tbl P w d xs)) (hk : keysIn H xs) : xs.length ≤ sizeLine ∧ (d == sysModules) = false ∧ ∃ us, Paired same xs us ∧ h.DictOfH (nestedKind P w) d us := by
  obtain ⟨⟨l, n, us, r, o, es, ep, ho, hx, hd, he, nd⟩, _⟩ := ok _ _ e
  refine ⟨l, n, us, r, o, es, ep, ho, hx, hd, he, ?_, nd⟩
  have : ∀ (xs : List Rw) us, Paired same xs us → keysIn H xs → ∀ x ∈ us, (nestedKind P w).is h x.1 x.2.1 := by
    intro xs us r
    induction r with
    | nil => exact fun _ x m => nomatch m
    | cons r1 _ ih =>
      intro hk x m
      rcases List.mem_cons.mp m with rfl | m
      · obtain ⟨h1, h2⟩ := hk _ List.mem_cons_self
        obtain ⟨q1, q2, _⟩ := r1
        rw [← q1, ← q2]
        exact ⟨KV1.is ok _ _ _ h1 rfl, h2⟩
      · exact ih (fun y my => hk y (List.mem_cons_of_mem _ my)) x m
  exact this xs us r hk
theorem at_rel {k : NestedKey} : ∀ {xs : List Rw} {us : List (NestedKey × Addr × Value)}, Paired same xs us → RelO (at? xs k) ((atKey us k).map (·.2))
  | _, _, .nil => True.intro
  | x :: xs, u :: us, .cons r t => by
    have ih := at_rel (k := k) t
    obtain ⟨q1, q2, q3⟩ := r
    by_cases hx : x.1 = k
    · have hu : u.1 = k := by rw [← q1]; exact hx
      have e1 : at? (x :: xs) k = some x.2.2 := by simp [at?, hx]
      have e2 : (atKey (u :: us) k).map (·.2) = some u.2.2 := by simp [atKey, hu]
      rw [e1, e2]
      exact q3
    · have hu : ¬ u.1 = k := by rw [← q1]; exact hx
      have e1 : at? (x :: xs) k = at? xs k := by simp [at?, hx]
      have e2 : (atKey (u :: us) k).map (·.2) = (atKey us k).map (·.2) := by simp [atKey, hu]
      rw [e1, e2]
      exact ih
end
section
variable {X : Cx} {pins : List (Addr × Obj)} {σ : L2.St} {H : Hp} {s : Shared}
theorem room_of (hu : X.A.units + 64 < cLine) : (nestedKind X.prog X.w).room X.A.in1 := by
  show X.A.units + 1 + 8 < cLine
  omega
def rNot (P : Program) (w : World) : R2 := fun x y H Q => ∃ a k d xs, x = .ref a ∧ y = .ref d ∧ H d = some (tbl P w d xs) ∧ keysIn H xs ∧ KV1 H k (.ref a) ∧ k.depth ≤ 8 ∧ Q (.bl (!(at? xs k).isSome)) H
/-- k not in d -/
theorem op_not (hu : X.A.units + 64 < cLine) : OpR X (compareOp .NotIn) (rNot X.prog X.w) := by
  intro pins s σ H x y v u Q I rx ry h
  obtain ⟨a, k, d, xs, rfl, rfl, e, hk, hka, h8, q⟩ := h
  cases rx
  cases ry
  obtain ⟨_, nd, us, r, hm⟩ := below I.hok e hk
  refine wpAny_notIn_heap (room_of hu) ⟨KV1.is I.hok _ _ _ hka rfl, h8⟩ nd hm ?_
  have q2 := (at_rel (k := k) r).isSome_eq
  rw [Option.isSome_map] at q2
  rw [← q2]
  exact ⟨.bl (!(at? xs k).isSome), H, I.tok _, rfl, q⟩
def rGet (P : Program) (w : World) : R2 := fun x y H Q => ∃ a k d xs v, x = .ref d ∧ y = .ref a ∧ H d = some (tbl P w d xs) ∧ keysIn H xs ∧ KV1 H k (.ref a) ∧ k.depth ≤ 8 ∧ at? xs k = some v ∧ Q v H
/-- d[k], there -/
theorem ix_get (hu : X.A.units + 64 < cLine) : IxR X (rGet X.prog X.w) := by
  intro value slice pins s σ H x y v u Q I rx ry h hs
  obtain ⟨a, k, d, xs, z, rfl, rfl, e, hk, hka, h8, hz, q⟩ := h
  cases rx
  cases ry
  obtain ⟨_, nd, us, r, hm⟩ := below I.hok e hk
  obtain ⟨w', hw, rw'⟩ := RelO.some_of (v := z) (o := (atKey us k).map (·.2)) (by rw [← hz]; exact at_rel r)
  obtain ⟨p, hp, rfl⟩ := Option.map_eq_some_iff.mp hw
  exact tail_any hm.typeIs slot_dict_getitem.lookup (wpAny_getItem_heap (room_of hu) ⟨KV1.is I.hok _ _ _ hka rfl, h8⟩ hm hp ⟨z, H, I.tok _, rw', q⟩) hs
def rSet (P : Program) (w : World) : TSet := fun o i v H Q => ∃ a k d xs, o = .ref d ∧ i = .ref a ∧ H d = some (tbl P w d xs) ∧ keysIn H xs ∧ KV1 H k (.ref a) ∧ k.depth ≤ 8 ∧ at? xs k = none ∧ xs.length < sizeLine ∧ Q (upd H d (tbl P w d (xs ++ [(k, a, v)])))
/-- d[k] = v, k is new -/
theorem set_new (hu : X.A.units + 64 < cLine) : PSet X (rSet X.prog X.w) := by
  intro pins s σ H o i v ov iv u Q I ro ri rv h
  obtain ⟨a, k, d, xs, rfl, rfl, e, hk, hka, h8, hz, hl, q⟩ := h
  cases ro
  cases ri
  obtain ⟨l, nd, us, r, hm⟩ := below I.hok e hk
  have hno : atKey us k = none := by
    have := at_rel (k := k) r
    rw [hz] at this
    exact Option.map_eq_none_iff.mp (RelO.none_of this)
  refine wpAny_setItem_heap (hsz := by rw [← Paired.length r]; exact l) (room_of hu) ⟨KV1.is I.hok _ _ _ hka rfl, h8⟩ hm fun h' dd hs => ⟨_, ?_, q⟩
  rw [storedH_new hno] at dd
  obtain ⟨ob, es, ep, ho, hx, hd, he, _, hn⟩ := dd
  refine d_write I (by rw [e]; exact True.intro) hs ⟨ob, ho⟩ (tbl_ok ⟨?_, nd, _, ?_, ob, es, ep, ho, hx, hd, he, hn⟩)
  · rw [List.length_append]
    exact hl
  · have : ∀ {xs : List Rw} {us : List (NestedKey × Addr × Value)}, Paired same xs us → Paired same (xs ++ [(k, a, v)]) (us ++ [(k, a, u)]) := by
      intro xs us r
      induction r with
      | nil => exact .cons ⟨rfl, rfl, rv⟩ .nil
      | cons r1 _ ih => exact .cons r1 ih
    exact this r
def tNewK (P : Program) (w : World) : TE := fun _ H Q => ∀ d, H d = none → Q (.ref d) (upd H d (tbl P w d []))
/-- {} -/
theorem pe_newN {pos : Pos} : PE X (.Dict [] [] pos) (tNewK X.prog X.w) := ⟨fun pins s σ H Q I h => by
  refine wpAny_Dict_empty ⟨.ref s.heap.objs.size, _, I.laid (a := s.heap.objs.size) (o := tbl X.prog X.w s.heap.objs.size []) (t' := s.toks) (fun _ _ q => Heap.get?_push_of_some _ q) (Nat.le_refl _) ?_, rfl, h _ (I.hok.fresh (Nat.le_refl _))⟩
  obtain ⟨l, n, xs, r, o, es, ep, ho, hx, hd, he, nd⟩ := dt_empty (P := X.prog) (w := X.w) (H := upd H s.heap.objs.size (.dT [])) s.heap I.big
  cases r
  exact tbl_ok ⟨Nat.zero_le _, n, [], .nil, o, es, ep, ho, hx, hd, he, .nil⟩⟩
end
end NKd

set_option Elab.async false
set_option linter.all false
set_option maxRecDepth 100000
set_option maxHeartbeats 8000000
namespace Lz
open PySem PySem.Spec PyProof.Rows L2
/-- of functions one behind the other, from a place on -/
def allPs : Int → List Fn → List (Lz.P × List Int)
  | _, [] => []
  | q, g :: gs => psOf q g.2.2.all ++ allPs (q + (g.2.2.many : Int)) gs
def allNm : Int → List Fn → List (Int × Nv)
  | _, [] => []
  | q, g :: gs => nmE (lk (Lf g.2.1 q g.2.2.all)) q g.2.2.all ++ allNm (q + (g.2.2.many : Int)) gs
def bds : Int → List Fn → List (Str × Int)
  | _, [] => []
  | q, g :: gs => (g.1, q) :: bds (q + (g.2.2.many : Int)) gs
def wts (gs : List Fn) : List (Str × Int) := gs.map fun g => (g.1, (g.2.1.length : Int))
def manyF (gs : List Fn) : Nat := (gs.map fun g => g.2.2.many).sum
theorem manyF_cons (g : Fn) (gs : List Fn) : manyF (g :: gs) = g.2.2.many + manyF gs := by
  unfold manyF
  rw [List.map_cons, List.sum_cons]
theorem allPs_len : ∀ (q : Int) (gs : List Fn), (allPs q gs).length = manyF gs
  | _, [] => rfl
  | q, g :: gs => by
    show (psOf q g.2.2.all ++ allPs _ gs).length = _
    rw [List.length_append, psOf_len, allPs_len, manyF_cons, all_len]
theorem allPs_snoc : ∀ (q : Int) (gs : List Fn) (g : Fn), allPs q (gs ++ [g]) = allPs q gs ++ psOf (q + (manyF gs : Int)) g.2.2.all
  | q, [], g => by
    show psOf q g.2.2.all ++ [] = [] ++ psOf (q + ((0 : Nat) : Int)) g.2.2.all
    simp
  | q, a :: gs, g => by
    have e : q + (manyF (a :: gs) : Int) = q + (a.2.2.many : Int) + (manyF gs : Int) := by rw [manyF_cons]; omega
    show psOf q a.2.2.all ++ allPs _ (gs ++ [g]) = (psOf q a.2.2.all ++ allPs _ gs) ++ _
    rw [e, allPs_snoc, List.append_assoc]
theorem allNm_snoc : ∀ (q : Int) (gs : List Fn) (g : Fn), allNm q (gs ++ [g]) = allNm q gs ++ nmE (lk (Lf g.2.1 (q + (manyF gs : Int)) g.2.2.all)) (q + (manyF gs : Int)) g.2.2.all
  | q, [], g => by
    show nmE (lk (Lf g.2.1 q g.2.2.all)) q g.2.2.all ++ [] = [] ++ nmE (lk (Lf g.2.1 (q + ((0 : Nat) : Int)) g.2.2.all)) (q + ((0 : Nat) : Int)) g.2.2.all
    simp
  | q, a :: gs, g => by
    have e : q + (manyF (a :: gs) : Int) = q + (a.2.2.many : Int) + (manyF gs : Int) := by rw [manyF_cons]; omega
    show nmE _ q a.2.2.all ++ allNm _ (gs ++ [g]) = (nmE _ q a.2.2.all ++ allNm _ gs) ++ _
    rw [e, allNm_snoc, List.append_assoc]
theorem bds_snoc : ∀ (q : Int) (gs : List Fn) (g : Fn), bds q (gs ++ [g]) = bds q gs ++ [(g.1, q + (manyF gs : Int))]
  | q, [], g => by
    show [(g.1, q)] = [(g.1, q + ((0 : Nat) : Int))]
    simp
  | q, a :: gs, g => by
    have e : q + (manyF (a :: gs) : Int) = q + (a.2.2.many : Int) + (manyF gs : Int) := by rw [manyF_cons]; omega
    show (a.1, q) :: bds _ (gs ++ [g]) = (a.1, q) :: bds _ gs ++ _
    rw [e, bds_snoc]
    rfl
theorem bds_fst : ∀ (q : Int) (gs : List Fn), (bds q gs).map (·.1) = gs.map (·.1)
  | _, [] => rfl
  | q, g :: gs => by
    show g.1 :: (bds _ gs).map (·.1) = g.1 :: gs.map (·.1)
    rw [bds_fst]
theorem allNm_lt : ∀ (q : Int) (gs : List Fn) (e : Int × Nv), e ∈ allNm q gs → q ≤ e.1 ∧ e.1 < q + (manyF gs : Int)
  | _, [], _, m => nomatch m
  | q, g :: gs, e, m => by
    have hg := manyF_cons g gs
    rcases List.mem_append.mp (show e ∈ nmE _ q g.2.2.all ++ allNm (q + (g.2.2.many : Int)) gs from m) with m | m
    · have := nmE_lt _ _ _ e m
      rw [all_len] at this
      omega
    · have := allNm_lt _ gs e m
      omega
theorem manyF_take (gs : List Fn) (c : Nat) (h : ∀ g, g ∈ gs → g.2.2.many ≤ 60) : manyF (gs.take c) ≤ 60 * c := by
  induction c generalizing gs with
  | zero => rw [List.take_zero]; exact Nat.zero_le _
  | succ c ih =>
    cases gs with
    | nil => exact Nat.zero_le _
    | cons g gs =>
      rw [List.take_succ_cons, manyF_cons]
      have h1 := h g List.mem_cons_self
      have h2 := ih gs fun x m => h x (List.mem_cons_of_mem _ m)
      omega
theorem fns_nodup {fs : List Fn} {d : Lz.P} (h : Fits fs d) : ((fnsOf fs d).map (·.1)).Nodup := by
  show ((fs ++ [askedFn d]).map (·.1)).Nodup
  rw [List.map_append]
  refine List.nodup_append.mpr ⟨h.nd, by simp, fun a ha b hb e => ?_⟩
  obtain ⟨g, mg, rfl⟩ := List.mem_map.mp ha
  obtain rfl : b = ("" : Str) := List.mem_singleton.mp hb
  have := (h.nm g mg).1.1
  rw [e] at this
  exact absurd this (by decide +kernel)
def spSpotsX (K : PySem.W.Frag) (C : Addr) : Sp := fun vs H Q _ => ∃ (r dx : Addr) (v : V) (fs : List Fn) (d : Lz.P) (S : List Addr), vs = [.ref r, v] ∧ H r = some (.ins C dx []) ∧ Dp K H v (progD fs d) ∧ Prog fs d ∧ (∀ x, x ∈ S → x ≠ r ∧ ∃ o, H x = some o) ∧ ∀ p i m n b w H', Kr r H H' → SpE K C S H' r p i m n b w (allPs 0 (fnsOf fs d)) (allNm 0 (fnsOf fs d)) (bds 0 (fnsOf fs d)) (wts (fnsOf fs d)) → Q .non H'
theorem sf_new (p i m n b w : Addr) : putF "_wanted" (.ref w) (putF "_bodies" (.ref b) (putF "_named" (.ref n) (putF "_many_names" (.ref m) (putF "_inner" (.ref i) (putF "_parts" (.ref p) []))))) = sf p i m n b w := by
  have ne : ∀ {x y : Str} {v : V} {l : List (Str × V)} {u : V}, ¬ y = x → putF x v ((y, u) :: l) = (y, u) :: putF x v l := fun {x y v l u} h => by
    show (if y = x then _ else _) = _
    rw [if_neg h]
  have nil : ∀ {x : Str} {v : V}, putF x v [] = [(x, v)] := rfl
  unfold sf
  rw [nil]
  repeat rw [ne (by decide +kernel)]
  rw [nil]
  repeat rw [ne (by decide +kernel)]
  rw [nil]
  repeat rw [ne (by decide +kernel)]
  rw [nil]
  repeat rw [ne (by decide +kernel)]
  rw [nil]
  repeat rw [ne (by decide +kernel)]
  rw [nil]
section
variable {P : Program} {w : World} {K : PySem.W.Frag} {mg : Str → Option Value} {base : Heap} {f C : Addr} {fd : FuncData}
abbrev sSInit : Stmt := inClass (topS 11) 0
theorem scSInit : FnScope ["self", "program", "f", "names", "body"] ["self", "program"] (defScope sSInit) := ⟨rfl, rfl, rfl, by decide +kernel, rfl, by decide +kernel, by decide +kernel⟩
theorem ok_spotsX {j : Nat} (hj : 1 ≤ j) (F : Fun K "__init__" "Spots.__init__" sSInit f fd) (R : SC K C) (B : Bt mg) (CAllFunctions : C8.Cal P w K mg base 1 "all_functions" (spFuns K) []) (CSAddBody : C8.Met P w K mg base j C "_add_body" (spAddBodyX K C) []) : FnOk P w K mg base CX0 (j + 1) f fd ["self", "program"] (spSpotsX K C) := by
  have ml := B.len
  refine F.ok scSInit (fun vs H Q E h => ?_) (fun cdv A outer s H vs Q E hr h => ?_)
  · obtain ⟨r, dx, v, fs, d, S, rfl, _⟩ := h
    rfl
  have hu := hu_of hr
  obtain ⟨r, dx, v, fs, d, S, rfl, ho, hd, hprog, hSx, q⟩ := h
  refine ⟨_, (pss_cons (ps_fld (pv 0) (pe_lst pa_nil) rfl)
    (pss_cons (ps_fld (pv 0) (pe_lst pa_nil) rfl)
    (pss_cons (ps_fld (pv 0) (pe_lst pa_nil) rfl)
    (pss_cons (ps_fld (pv 0) pe_dnewK rfl)
    (pss_cons (ps_fld (pv 0) pe_dnewK rfl)
    (pss_cons (ps_fld (pv 0) pe_dnewK rfl)
    (pss_one (ps_for PassesOwn.never rfl (pi_listK (K := K) rfl (C8.pe_c CAllFunctions hr (by first | decide | omega) (by rfl) (pa_cons (pv 1) pa_nil))) (pg_tupK (K := K) (n := 3) rfl rfl (pgs_cons (pg_name (i := 2) scSInit.nd rfl (.inl rfl)) (pgs_cons (pg_name (i := 3) scSInit.nd rfl (.inl rfl)) (pgs_cons (pg_name (i := 4) scSInit.nd rfl (.inl rfl)) pgs_nil)))) (pss_cons (ps_dput hu (pe_fld (pv 0) rfl) (pv 2) (pe_callB (call_lenK (K := K) rfl) (by rfl) ml PySem.boot_len (pa_cons (pe_fld (pv 0) rfl) pa_nil)) rfl)
    (pss_cons (ps_dput hu (pe_fld (pv 0) rfl) (pv 2) (pe_callB (call_lenK (K := K) rfl) (by rfl) ml PySem.boot_len (pa_cons (pv 3) pa_nil)) rfl)
    (pss_one (ps_expr (C8.pe_mt CSAddBody hr (by first | decide | omega) (pv 0) (pa_cons (pv 3) (pa_cons (pv 4) pa_nil))))))))))))))), ?_⟩
  have l0 : ([] : List (Str × V)).length ≤ 0 := Nat.le_refl _
  have kz : Kr r H H := Kr.refl _ _
  refine ⟨Nat.zero_le _, fun p hp => ?_⟩
  have npr : p ≠ r := (ne_of_none ho hp).symm
  refine ⟨_, rfl, r, C, dx, _, rfl, (by rw [upd_ne npr.symm]; exact ho), R.cl, R.n1, (by omega), ?_⟩
  have ho1 : (upd (upd H p (.lst [])) r (.ins C dx (putF "_parts" (.ref p) []))) r = some (.ins C dx (putF "_parts" (.ref p) [])) := upd_same
  have ap1 : (upd (upd H p (.lst [])) r (.ins C dx (putF "_parts" (.ref p) []))) p = some (.lst []) := by rw [upd_ne npr, upd_same]
  have zp : H p = none := kz.free hp npr
  have kz1 : Kr r H (upd (upd H p (.lst [])) r (.ins C dx (putF "_parts" (.ref p) []))) := (kz.trans (Kr.new hp)).trans (Kr.at r _ _)
  have l1 : (putF "_parts" (.ref p) []).length ≤ 1 := by have := length_putF "_parts" (.ref p) []; omega
  generalize (upd (upd H p (.lst [])) r (.ins C dx (putF "_parts" (.ref p) []))) = H1 at ho1 ap1 kz1 ⊢
  refine ⟨Nat.zero_le _, fun i hi => ?_⟩
  have nir : i ≠ r := (ne_of_none ho1 hi).symm
  refine ⟨_, rfl, r, C, dx, _, rfl, (by rw [upd_ne nir.symm]; exact ho1), R.cl, R.n2, (by omega), ?_⟩
  have ho2 : (upd (upd H1 i (.lst [])) r (.ins C dx (putF "_inner" (.ref i) (putF "_parts" (.ref p) [])))) r = some (.ins C dx (putF "_inner" (.ref i) (putF "_parts" (.ref p) []))) := upd_same
  have ai2 : (upd (upd H1 i (.lst [])) r (.ins C dx (putF "_inner" (.ref i) (putF "_parts" (.ref p) [])))) i = some (.lst []) := by rw [upd_ne nir, upd_same]
  have ap2 : (upd (upd H1 i (.lst [])) r (.ins C dx (putF "_inner" (.ref i) (putF "_parts" (.ref p) [])))) p = some (.lst []) := by rw [upd_ne npr, upd_ne (ne_of_none ap1 hi)]; exact ap1
  have npi : p ≠ i := ne_of_none ap1 hi
  have zi : H i = none := kz1.free hi nir
  have kz2 : Kr r H (upd (upd H1 i (.lst [])) r (.ins C dx (putF "_inner" (.ref i) (putF "_parts" (.ref p) [])))) := (kz1.trans (Kr.new hi)).trans (Kr.at r _ _)
  have l2 : (putF "_inner" (.ref i) (putF "_parts" (.ref p) [])).length ≤ 2 := by have := length_putF "_inner" (.ref i) (putF "_parts" (.ref p) []); omega
  generalize (upd (upd H1 i (.lst [])) r (.ins C dx (putF "_inner" (.ref i) (putF "_parts" (.ref p) [])))) = H2 at ho2 ai2 ap2 kz2 ⊢
  refine ⟨Nat.zero_le _, fun m hm => ?_⟩
  have nmr : m ≠ r := (ne_of_none ho2 hm).symm
  refine ⟨_, rfl, r, C, dx, _, rfl, (by rw [upd_ne nmr.symm]; exact ho2), R.cl, R.n3, (by omega), ?_⟩
  have ho3 : (upd (upd H2 m (.lst [])) r (.ins C dx (putF "_many_names" (.ref m) (putF "_inner" (.ref i) (putF "_parts" (.ref p) []))))) r = some (.ins C dx (putF "_many_names" (.ref m) (putF "_inner" (.ref i) (putF "_parts" (.ref p) [])))) := upd_same
  have am3 : (upd (upd H2 m (.lst [])) r (.ins C dx (putF "_many_names" (.ref m) (putF "_inner" (.ref i) (putF "_parts" (.ref p) []))))) m = some (.lst []) := by rw [upd_ne nmr, upd_same]
  have ap3 : (upd (upd H2 m (.lst [])) r (.ins C dx (putF "_many_names" (.ref m) (putF "_inner" (.ref i) (putF "_parts" (.ref p) []))))) p = some (.lst []) := by rw [upd_ne npr, upd_ne (ne_of_none ap2 hm)]; exact ap2
  have npm : p ≠ m := ne_of_none ap2 hm
  have ai3 : (upd (upd H2 m (.lst [])) r (.ins C dx (putF "_many_names" (.ref m) (putF "_inner" (.ref i) (putF "_parts" (.ref p) []))))) i = some (.lst []) := by rw [upd_ne nir, upd_ne (ne_of_none ai2 hm)]; exact ai2
  have nim : i ≠ m := ne_of_none ai2 hm
  have zm : H m = none := kz2.free hm nmr
  have kz3 : Kr r H (upd (upd H2 m (.lst [])) r (.ins C dx (putF "_many_names" (.ref m) (putF "_inner" (.ref i) (putF "_parts" (.ref p) []))))) := (kz2.trans (Kr.new hm)).trans (Kr.at r _ _)
  have l3 : (putF "_many_names" (.ref m) (putF "_inner" (.ref i) (putF "_parts" (.ref p) []))).length ≤ 3 := by have := length_putF "_many_names" (.ref m) (putF "_inner" (.ref i) (putF "_parts" (.ref p) [])); omega
  generalize (upd (upd H2 m (.lst [])) r (.ins C dx (putF "_many_names" (.ref m) (putF "_inner" (.ref i) (putF "_parts" (.ref p) []))))) = H3 at ho3 am3 ap3 ai3 kz3 ⊢
  refine fun n hn => ?_
  have nnr : n ≠ r := (ne_of_none ho3 hn).symm
  refine ⟨_, rfl, r, C, dx, _, rfl, (by rw [upd_ne nnr.symm]; exact ho3), R.cl, R.n4, (by omega), ?_⟩
  have ho4 : (upd (upd H3 n (.dK [])) r (.ins C dx (putF "_named" (.ref n) (putF "_many_names" (.ref m) (putF "_inner" (.ref i) (putF "_parts" (.ref p) [])))))) r = some (.ins C dx (putF "_named" (.ref n) (putF "_many_names" (.ref m) (putF "_inner" (.ref i) (putF "_parts" (.ref p) []))))) := upd_same
  have an4 : (upd (upd H3 n (.dK [])) r (.ins C dx (putF "_named" (.ref n) (putF "_many_names" (.ref m) (putF "_inner" (.ref i) (putF "_parts" (.ref p) [])))))) n = some (.dK []) := by rw [upd_ne nnr, upd_same]
  have ap4 : (upd (upd H3 n (.dK [])) r (.ins C dx (putF "_named" (.ref n) (putF "_many_names" (.ref m) (putF "_inner" (.ref i) (putF "_parts" (.ref p) [])))))) p = some (.lst []) := by rw [upd_ne npr, upd_ne (ne_of_none ap3 hn)]; exact ap3
  have npn : p ≠ n := ne_of_none ap3 hn
  have ai4 : (upd (upd H3 n (.dK [])) r (.ins C dx (putF "_named" (.ref n) (putF "_many_names" (.ref m) (putF "_inner" (.ref i) (putF "_parts" (.ref p) [])))))) i = some (.lst []) := by rw [upd_ne nir, upd_ne (ne_of_none ai3 hn)]; exact ai3
  have nin : i ≠ n := ne_of_none ai3 hn
  have am4 : (upd (upd H3 n (.dK [])) r (.ins C dx (putF "_named" (.ref n) (putF "_many_names" (.ref m) (putF "_inner" (.ref i) (putF "_parts" (.ref p) [])))))) m = some (.lst []) := by rw [upd_ne nmr, upd_ne (ne_of_none am3 hn)]; exact am3
  have nmn : m ≠ n := ne_of_none am3 hn
  have zn : H n = none := kz3.free hn nnr
  have kz4 : Kr r H (upd (upd H3 n (.dK [])) r (.ins C dx (putF "_named" (.ref n) (putF "_many_names" (.ref m) (putF "_inner" (.ref i) (putF "_parts" (.ref p) [])))))) := (kz3.trans (Kr.new hn)).trans (Kr.at r _ _)
  have l4 : (putF "_named" (.ref n) (putF "_many_names" (.ref m) (putF "_inner" (.ref i) (putF "_parts" (.ref p) [])))).length ≤ 4 := by have := length_putF "_named" (.ref n) (putF "_many_names" (.ref m) (putF "_inner" (.ref i) (putF "_parts" (.ref p) []))); omega
  generalize (upd (upd H3 n (.dK [])) r (.ins C dx (putF "_named" (.ref n) (putF "_many_names" (.ref m) (putF "_inner" (.ref i) (putF "_parts" (.ref p) [])))))) = H4 at ho4 an4 ap4 ai4 am4 kz4 ⊢
  refine fun b hb => ?_
  have nbr : b ≠ r := (ne_of_none ho4 hb).symm
  refine ⟨_, rfl, r, C, dx, _, rfl, (by rw [upd_ne nbr.symm]; exact ho4), R.cl, R.n5, (by omega), ?_⟩
  have ho5 : (upd (upd H4 b (.dK [])) r (.ins C dx (putF "_bodies" (.ref b) (putF "_named" (.ref n) (putF "_many_names" (.ref m) (putF "_inner" (.ref i) (putF "_parts" (.ref p) []))))))) r = some (.ins C dx (putF "_bodies" (.ref b) (putF "_named" (.ref n) (putF "_many_names" (.ref m) (putF "_inner" (.ref i) (putF "_parts" (.ref p) [])))))) := upd_same
  have ab5 : (upd (upd H4 b (.dK [])) r (.ins C dx (putF "_bodies" (.ref b) (putF "_named" (.ref n) (putF "_many_names" (.ref m) (putF "_inner" (.ref i) (putF "_parts" (.ref p) []))))))) b = some (.dK []) := by rw [upd_ne nbr, upd_same]
  have ap5 : (upd (upd H4 b (.dK [])) r (.ins C dx (putF "_bodies" (.ref b) (putF "_named" (.ref n) (putF "_many_names" (.ref m) (putF "_inner" (.ref i) (putF "_parts" (.ref p) []))))))) p = some (.lst []) := by rw [upd_ne npr, upd_ne (ne_of_none ap4 hb)]; exact ap4
  have npb : p ≠ b := ne_of_none ap4 hb
  have ai5 : (upd (upd H4 b (.dK [])) r (.ins C dx (putF "_bodies" (.ref b) (putF "_named" (.ref n) (putF "_many_names" (.ref m) (putF "_inner" (.ref i) (putF "_parts" (.ref p) []))))))) i = some (.lst []) := by rw [upd_ne nir, upd_ne (ne_of_none ai4 hb)]; exact ai4
  have nib : i ≠ b := ne_of_none ai4 hb
  have am5 : (upd (upd H4 b (.dK [])) r (.ins C dx (putF "_bodies" (.ref b) (putF "_named" (.ref n) (putF "_many_names" (.ref m) (putF "_inner" (.ref i) (putF "_parts" (.ref p) []))))))) m = some (.lst []) := by rw [upd_ne nmr, upd_ne (ne_of_none am4 hb)]; exact am4
  have nmb : m ≠ b := ne_of_none am4 hb
  have an5 : (upd (upd H4 b (.dK [])) r (.ins C dx (putF "_bodies" (.ref b) (putF "_named" (.ref n) (putF "_many_names" (.ref m) (putF "_inner" (.ref i) (putF "_parts" (.ref p) []))))))) n = some (.dK []) := by rw [upd_ne nnr, upd_ne (ne_of_none an4 hb)]; exact an4
  have nnb : n ≠ b := ne_of_none an4 hb
  have zb : H b = none := kz4.free hb nbr
  have kz5 : Kr r H (upd (upd H4 b (.dK [])) r (.ins C dx (putF "_bodies" (.ref b) (putF "_named" (.ref n) (putF "_many_names" (.ref m) (putF "_inner" (.ref i) (putF "_parts" (.ref p) []))))))) := (kz4.trans (Kr.new hb)).trans (Kr.at r _ _)
  have l5 : (putF "_bodies" (.ref b) (putF "_named" (.ref n) (putF "_many_names" (.ref m) (putF "_inner" (.ref i) (putF "_parts" (.ref p) []))))).length ≤ 5 := by have := length_putF "_bodies" (.ref b) (putF "_named" (.ref n) (putF "_many_names" (.ref m) (putF "_inner" (.ref i) (putF "_parts" (.ref p) [])))); omega
  generalize (upd (upd H4 b (.dK [])) r (.ins C dx (putF "_bodies" (.ref b) (putF "_named" (.ref n) (putF "_many_names" (.ref m) (putF "_inner" (.ref i) (putF "_parts" (.ref p) []))))))) = H5 at ho5 ab5 ap5 ai5 am5 an5 kz5 ⊢
  refine fun w hw => ?_
  have nwr : w ≠ r := (ne_of_none ho5 hw).symm
  refine ⟨_, rfl, r, C, dx, _, rfl, (by rw [upd_ne nwr.symm]; exact ho5), R.cl, R.n6, (by omega), ?_⟩
  have ho6 : (upd (upd H5 w (.dK [])) r (.ins C dx (putF "_wanted" (.ref w) (putF "_bodies" (.ref b) (putF "_named" (.ref n) (putF "_many_names" (.ref m) (putF "_inner" (.ref i) (putF "_parts" (.ref p) [])))))))) r = some (.ins C dx (putF "_wanted" (.ref w) (putF "_bodies" (.ref b) (putF "_named" (.ref n) (putF "_many_names" (.ref m) (putF "_inner" (.ref i) (putF "_parts" (.ref p) []))))))) := upd_same
  have aw6 : (upd (upd H5 w (.dK [])) r (.ins C dx (putF "_wanted" (.ref w) (putF "_bodies" (.ref b) (putF "_named" (.ref n) (putF "_many_names" (.ref m) (putF "_inner" (.ref i) (putF "_parts" (.ref p) [])))))))) w = some (.dK []) := by rw [upd_ne nwr, upd_same]
  have ap6 : (upd (upd H5 w (.dK [])) r (.ins C dx (putF "_wanted" (.ref w) (putF "_bodies" (.ref b) (putF "_named" (.ref n) (putF "_many_names" (.ref m) (putF "_inner" (.ref i) (putF "_parts" (.ref p) [])))))))) p = some (.lst []) := by rw [upd_ne npr, upd_ne (ne_of_none ap5 hw)]; exact ap5
  have npw : p ≠ w := ne_of_none ap5 hw
  have ai6 : (upd (upd H5 w (.dK [])) r (.ins C dx (putF "_wanted" (.ref w) (putF "_bodies" (.ref b) (putF "_named" (.ref n) (putF "_many_names" (.ref m) (putF "_inner" (.ref i) (putF "_parts" (.ref p) [])))))))) i = some (.lst []) := by rw [upd_ne nir, upd_ne (ne_of_none ai5 hw)]; exact ai5
  have niw : i ≠ w := ne_of_none ai5 hw
  have am6 : (upd (upd H5 w (.dK [])) r (.ins C dx (putF "_wanted" (.ref w) (putF "_bodies" (.ref b) (putF "_named" (.ref n) (putF "_many_names" (.ref m) (putF "_inner" (.ref i) (putF "_parts" (.ref p) [])))))))) m = some (.lst []) := by rw [upd_ne nmr, upd_ne (ne_of_none am5 hw)]; exact am5
  have nmw : m ≠ w := ne_of_none am5 hw
  have an6 : (upd (upd H5 w (.dK [])) r (.ins C dx (putF "_wanted" (.ref w) (putF "_bodies" (.ref b) (putF "_named" (.ref n) (putF "_many_names" (.ref m) (putF "_inner" (.ref i) (putF "_parts" (.ref p) [])))))))) n = some (.dK []) := by rw [upd_ne nnr, upd_ne (ne_of_none an5 hw)]; exact an5
  have nnw : n ≠ w := ne_of_none an5 hw
  have ab6 : (upd (upd H5 w (.dK [])) r (.ins C dx (putF "_wanted" (.ref w) (putF "_bodies" (.ref b) (putF "_named" (.ref n) (putF "_many_names" (.ref m) (putF "_inner" (.ref i) (putF "_parts" (.ref p) [])))))))) b = some (.dK []) := by rw [upd_ne nbr, upd_ne (ne_of_none ab5 hw)]; exact ab5
  have nbw : b ≠ w := ne_of_none ab5 hw
  have zw : H w = none := kz5.free hw nwr
  have kz6 : Kr r H (upd (upd H5 w (.dK [])) r (.ins C dx (putF "_wanted" (.ref w) (putF "_bodies" (.ref b) (putF "_named" (.ref n) (putF "_many_names" (.ref m) (putF "_inner" (.ref i) (putF "_parts" (.ref p) [])))))))) := (kz5.trans (Kr.new hw)).trans (Kr.at r _ _)
  have l6 : (putF "_wanted" (.ref w) (putF "_bodies" (.ref b) (putF "_named" (.ref n) (putF "_many_names" (.ref m) (putF "_inner" (.ref i) (putF "_parts" (.ref p) [])))))).length ≤ 6 := by have := length_putF "_wanted" (.ref w) (putF "_bodies" (.ref b) (putF "_named" (.ref n) (putF "_many_names" (.ref m) (putF "_inner" (.ref i) (putF "_parts" (.ref p) []))))); omega
  generalize (upd (upd H5 w (.dK [])) r (.ins C dx (putF "_wanted" (.ref w) (putF "_bodies" (.ref b) (putF "_named" (.ref n) (putF "_many_names" (.ref m) (putF "_inner" (.ref i) (putF "_parts" (.ref p) [])))))))) = H6 at ho6 aw6 ap6 ai6 am6 an6 ab6 kz6 ⊢
  rw [sf_new] at ho6
  have fS : ∀ x, H x = none → ¬ x ∈ S := fun x e m => by
    obtain ⟨_, o, g⟩ := hSx x m
    rw [e] at g
    cases g
  have S6 : SpE K C S H6 r p i m n b w [] [] [] [] := ⟨⟨dx, ho6⟩, ⟨[], ap6, .nil⟩, ⟨[], ai6, .nil⟩, ⟨[], am6, rfl⟩, ⟨[], an6, Nat.le_refl _, fun e m => nomatch m⟩, ⟨[], ab6, Nat.zero_le _, fun e m => nomatch m⟩, ⟨[], aw6, Nat.zero_le _, fun e m => nomatch m⟩, npi, npm, nim, nnb, nnw, nbw, fun x mx => by
    simp only [List.mem_cons, List.not_mem_nil, or_false] at mx
    rcases mx with e | e | e | e | e | e | e
    · exact fun m => (hSx x m).1 e
    · exact fS x (by rw [e]; exact zp)
    · exact fS x (by rw [e]; exact zi)
    · exact fS x (by rw [e]; exact zm)
    · exact fS x (by rw [e]; exact zn)
    · exact fS x (by rw [e]; exact zb)
    · exact fS x (by rw [e]; exact zw)⟩
  have hd6 := Dp.keepR kz6 ho _ _ (progU_fz _ _) hd
  have hfit := hprog.fits
  have hndF := fns_nodup hfit
  refine ⟨_, rfl, v, fs, d, rfl, hd6, hprog.prOk, fun l xs H7 k7 hl0 hl hx => ?_⟩
  have hfl : (fnsOf fs d).length ≤ 9 := by
    show (fs ++ [askedFn d]).length ≤ 9
    rw [List.length_append]
    have := hfit.len
    show fs.length + 1 ≤ 9
    omega
  have hxl : xs.length = (fnsOf fs d).length := by rw [hx.length, List.length_map]
  have nlr : l ≠ r := fun e => by rw [e, ho6] at hl0; cases hl0
  have zl : H l = none := kz6.free hl0 nlr
  have nl6 : ¬ l ∈ [p, i, m, n] := fun q => by
    simp only [List.mem_cons, List.not_mem_nil, or_false] at q
    rcases q with rfl | rfl | rfl | rfl
    · rw [ap6] at hl0; cases hl0
    · rw [ai6] at hl0; cases hl0
    · rw [am6] at hl0; cases hl0
    · rw [an6] at hl0; cases hl0
  refine ⟨l, rfl, ⟨_, SqL.of hl⟩, for_list (K := K) (a := l) (xs := xs) (fun c σ H' => ∃ (v2 v3 v4 : Option V) (kb kw : List (Key × V)), σ = [some (.ref r), some v, v2, v3, v4] ∧ Kr r H H' ∧ SpE K C S H' r p i m n b w (allPs 0 ((fnsOf fs d).take c)) (allNm 0 ((fnsOf fs d).take c)) (bds 0 ((fnsOf fs d).take c)) (wts ((fnsOf fs d).take c)) ∧ H' l = some (.lst xs) ∧ DpAll K H' xs ((fnsOf fs d).map fD) ∧ H' b = some (.dK kb) ∧ kb.length ≤ c ∧ H' w = some (.dK kw) ∧ kw.length ≤ c)
    ⟨none, none, none, [], [], rfl, kz6.trans (Kr.of k7), by rw [List.take_zero]; exact S6.keep k7, hl, hx, k7 _ _ ab6 (fun m => nomatch m), Nat.zero_le _, k7 _ _ aw6 (fun m => nomatch m), Nat.zero_le _⟩ (fun c σ H' _ ⟨_, _, _, _, _, _, _, _, g, _⟩ => SqL.of g) ?_ ?_⟩
  · rintro c x σ H8 hc ⟨v2, v3, v4, kb, kw, rfl, k8, S8, hl8, hx8, hb8, lb8, hw8, lw8⟩
    have hcl := (List.getElem?_eq_some_iff.mp hc).1
    obtain ⟨g, t, r0, u, hg, rfl, ht, hr0, hu0⟩ := fn_atU hx8 hc
    have hgm := List.mem_of_getElem? hg
    have hbd := hfit.bd g hgm
    have hft := hfit.ft g hgm
    have hfw := hfit.few g hgm
    have hhid := hfit.hid g hgm
    have hal := all_len g.2.2
    have hmy := hbd.many
    have htk : (fnsOf fs d).take (c + 1) = (fnsOf fs d).take c ++ [g] := by rw [List.take_add_one, hg]; rfl
    have hps := allPs_len 0 ((fnsOf fs d).take c)
    have hpl := manyF_take (fnsOf fs d) c (fun g m => (hfit.bd g m).many)
    have newn : ∀ y, y ∈ ((fnsOf fs d).take c).map (·.1) → ¬ y = g.1 := fun y my => by
      have hs : (((fnsOf fs d).take c).map (·.1) ++ [g.1]).Nodup := by
        have : ((fnsOf fs d).take (c + 1)).map (·.1) = ((fnsOf fs d).take c).map (·.1) ++ [g.1] := by rw [htk, List.map_append]; rfl
        rw [← this, List.map_take]
        exact hndF.sublist (List.take_sublist _ _)
      exact (List.nodup_append.mp hs).2.2 _ my _ List.mem_cons_self
    obtain ⟨⟨dx8, ho8⟩, ⟨xs8, hp8, hxx8⟩, _, _, _, ⟨kb8, hb8', _, gb8⟩, ⟨kw8, hw8', _, gw8⟩, _⟩ := id S8
    obtain rfl := HO.dK.inj (Option.some.inj (hb8'.symm.trans hb8))
    obtain rfl := HO.dK.inj (Option.some.inj (hw8'.symm.trans hw8))
    have lx8 : xs8.length = manyF ((fnsOf fs d).take c) := by rw [hxx8.length, datas_len, List.length_map, hps]
    refine ⟨t, _, rfl, ht, rfl, _, _, rfl, _, _, rfl, _, _, rfl, rfl, ?_⟩
    refine ⟨_, rfl, r, C, dx8, _, _, rfl, ho8, R.cl, R.n1, sf_p _ _ _ _ _ _, p, _, rfl, .inl (SqL.of hp8), _, rfl, r, C, dx8, _, _, rfl, ho8, R.cl, R.n5, sf_b _ _ _ _ _ _, _, rfl, b, _, rfl, DPut.k (k := Sum.inr g.1) hb8 (small1000 (by omega)), ?_⟩
    rw [lx8]
    have lp1 := length_putK kb8 (Sum.inr g.1) (V.int (manyF ((fnsOf fs d).take c) : Nat))
    have kD : Kd b H8 (upd H8 b (.dK (putK kb8 (Sum.inr g.1) (.int (manyF ((fnsOf fs d).take c) : Nat))))) := Kd.at _ _ _
    have S9 := S8.bodies hb8 (kv' := putK kb8 (Sum.inr g.1) (.int (manyF ((fnsOf fs d).take c) : Nat))) (bd' := bds 0 ((fnsOf fs d).take (c + 1))) (by omega) (fun e me => by
      rw [htk, bds_snoc] at me
      rw [valV_put]
      rcases List.mem_append.mp me with me | me
      · rw [if_neg (fun q => newn e.1 (by rw [← bds_fst 0]; exact List.mem_map.mpr ⟨e, me, rfl⟩) (Sum.inr.inj q))]
        exact gb8 e me
      · rw [List.mem_singleton.mp me, if_pos rfl]
        show some (V.int _) = some (V.int (0 + _))
        rw [Int.zero_add])
    have hb9 : (upd H8 b (.dK (putK kb8 (Sum.inr g.1) (.int (manyF ((fnsOf fs d).take c) : Nat))))) b = some (.dK (putK kb8 (Sum.inr g.1) (.int (manyF ((fnsOf fs d).take c) : Nat)))) := upd_same
    have hl9 := kD.lst hl8 hb8
    have hx9 := kD.all hb8 (fd_fz _) hx8
    have hw9 := kD _ _ hw8 nbw.symm
    have hr9 := kD.ks.sqT (noT_d hb8) hr0
    have hu9 := Dp.keepS kD.ks (noT_d hb8) _ _ (data_fz _) hu0
    have k9 := k8.mut zb (o := .dK (putK kb8 (Sum.inr g.1) (.int (manyF ((fnsOf fs d).take c) : Nat))))
    generalize upd H8 b (.dK (putK kb8 (Sum.inr g.1) (.int (manyF ((fnsOf fs d).take c) : Nat)))) = H9 at S9 hb9 hl9 hx9 hw9 hr9 hu9 k9 ⊢
    obtain ⟨⟨dx9, ho9⟩, _⟩ := id S9
    refine ⟨_, rfl, r0, _, rfl, .inr hr9, _, rfl, r, C, dx9, _, _, rfl, ho9, R.cl, R.n6, sf_w _ _ _ _ _ _, _, rfl, w, _, rfl, DPut.k (k := Sum.inr g.1) hw9 (small1000 (by omega)), ?_⟩
    rw [List.length_map]
    have lp2 := length_putK kw8 (Sum.inr g.1) (V.int (g.2.1.length : Nat))
    have kE : Kd w H9 (upd H9 w (.dK (putK kw8 (Sum.inr g.1) (.int (g.2.1.length : Nat))))) := Kd.at _ _ _
    have S10 := S9.wanted hw9 (kv' := putK kw8 (Sum.inr g.1) (.int (g.2.1.length : Nat))) (wt' := wts ((fnsOf fs d).take (c + 1))) (by omega) (fun e me => by
      unfold wts at me
      rw [htk, List.map_append] at me
      rw [valV_put]
      rcases List.mem_append.mp me with me | me
      · obtain ⟨z, mz, rfl⟩ := List.mem_map.mp me
        rw [if_neg (fun q => newn z.1 (List.mem_map.mpr ⟨z, mz, rfl⟩) (Sum.inr.inj q))]
        exact gw8 _ me
      · rw [List.mem_singleton.mp me, if_pos rfl])
    have hw10 : (upd H9 w (.dK (putK kw8 (Sum.inr g.1) (.int (g.2.1.length : Nat))))) w = some (.dK (putK kw8 (Sum.inr g.1) (.int (g.2.1.length : Nat)))) := upd_same
    have hl10 := kE.lst hl9 hw9
    have hx10 := kE.all hw9 (fd_fz _) hx9
    have hb10 := kE _ _ hb9 nbw
    have hr10 := kE.ks.sqT (noT_d hw9) hr9
    have hu10 := Dp.keepS kE.ks (noT_d hw9) _ _ (data_fz _) hu9
    have k10 := k9.mut zw (o := .dK (putK kw8 (Sum.inr g.1) (.int (g.2.1.length : Nat))))
    generalize upd H9 w (.dK (putK kw8 (Sum.inr g.1) (.int (g.2.1.length : Nat)))) = H10 at S10 hw10 hl10 hx10 hb10 hr10 hu10 k10 ⊢
    obtain ⟨⟨dx10, ho10⟩, ⟨xs10, hp10, _⟩, ⟨ys10, hi10, _⟩, ⟨zs10, hm10, _⟩, ⟨kn10, hn10, _⟩, _⟩ := id S10
    have S10x : ∀ x, x ∈ S → ∃ o, H10 x = some o := fun x mx => by
      obtain ⟨nr, o, e⟩ := hSx x mx
      exact ⟨o, k10 _ _ e nr⟩
    have e0 : ((allPs 0 ((fnsOf fs d).take c)).length : Int) = 0 + (manyF ((fnsOf fs d).take c) : Int) := by rw [hps, Int.zero_add]
    refine ⟨_, rfl, r, dx10, _, rfl, ho10, sf_no _ _ _ _ _ _ (by decide +kernel) (by decide +kernel) (by decide +kernel) (by decide +kernel) (by decide +kernel) (by decide +kernel), _, rfl, _, rfl, ?_⟩
    refine ⟨r, p, i, m, n, b, w, r0, u, S, allPs 0 ((fnsOf fs d).take c), allNm 0 ((fnsOf fs d).take c), _, _, g.2.1, g.2.2, _, rfl, S10, by rw [hps]; omega, hr10, hfw, hu10, hbd, hft, hhid, S10x, fun e me => by rw [e0]; exact (allNm_lt 0 _ e me).2, fun H11 k11 S11 => ?_⟩
    rw [e0, ← allPs_snoc, ← allNm_snoc, ← htk] at S11
    have noT : NoT [p, i, m, n] H10 := fun x mx o e => by
      simp only [List.mem_cons, List.not_mem_nil, or_false] at mx
      rcases mx with rfl | rfl | rfl | rfl
      · rw [hp10] at e; cases e; exact ⟨fun _ z => (nomatch z), fun _ _ z => (nomatch z)⟩
      · rw [hi10] at e; cases e; exact ⟨fun _ z => (nomatch z), fun _ _ z => (nomatch z)⟩
      · rw [hm10] at e; cases e; exact ⟨fun _ z => (nomatch z), fun _ _ z => (nomatch z)⟩
      · rw [hn10] at e; cases e; exact ⟨fun _ z => (nomatch z), fun _ _ z => (nomatch z)⟩
    have fr : ∀ x, x ∈ [p, i, m, n] → H x = none := fun x mx => by
      simp only [List.mem_cons, List.not_mem_nil, or_false] at mx
      rcases mx with rfl | rfl | rfl | rfl
      · exact zp
      · exact zi
      · exact zm
      · exact zn
    have ro : ∀ o, H10 r = some o → H11 r = some o := fun o e => k11 _ _ e (fun mx => by have := fr r mx; rw [ho] at this; cases this)
    have bo : ¬ b ∈ [p, i, m, n] := fun mx => by
      simp only [List.mem_cons, List.not_mem_nil, or_false] at mx
      rcases mx with e | e | e | e
      · rw [e, hp10] at hb10; cases hb10
      · rw [e, hi10] at hb10; cases hb10
      · rw [e, hm10] at hb10; cases hb10
      · exact nnb e.symm
    have wo : ¬ w ∈ [p, i, m, n] := fun mx => by
      simp only [List.mem_cons, List.not_mem_nil, or_false] at mx
      rcases mx with e | e | e | e
      · rw [e, hp10] at hw10; cases hw10
      · rw [e, hi10] at hw10; cases hw10
      · rw [e, hm10] at hw10; cases hw10
      · exact nnw e.symm
    exact ⟨_, _, _, _, _, rfl, Ks.kr k10 fr k11 ro, S11, k11 _ _ hl10 nl6, Dp.keepAllS k11 noT _ _ (fd_fz _) hx10, k11 _ _ hb10 bo, by omega, k11 _ _ hw10 wo, by omega⟩
  · rintro σ H8 ⟨v2, v3, v4, kb, kw, rfl, k8, S8, _⟩
    rw [hxl, List.take_length] at S8
    exact q p i m n b w H8 k8 S8
end
end Lz

set_option Elab.async false
set_option linter.all false
set_option maxRecDepth 100000
set_option maxHeartbeats 8000000
namespace Lz
open PySem PySem.Spec PyProof.Rows L2 NKd
/-- a node: a place and its things -/
abbrev Nd := Int × List Int
def keyN (x : Nd) : NestedKey := .tup [.num x.1, .tup (x.2.map .num)]
theorem num_inj : ∀ {a b : List Int}, a.map NestedKey.num = b.map NestedKey.num → a = b
  | [], [], _ => rfl
  | [], _ :: _, h => by cases h
  | _ :: _, [], h => by cases h
  | x :: a, y :: b, h => by
    rw [List.map_cons, List.map_cons] at h
    injection h with h1 h2
    injection h1 with h1
    rw [h1, num_inj h2]
theorem keyN_inj {x y : Nd} (h : keyN x = keyN y) : x = y := by
  unfold keyN at h
  injection h with h
  injection h with h1 h2
  injection h1 with h1
  injection h2 with h2 _
  injection h2 with h2
  exact Prod.ext h1 (num_inj h2)
theorem depthN (x : Nd) : (keyN x).depth ≤ 8 := by
  have h : ∀ l : List Int, NestedKey.depthAll (l.map .num) = 0 := fun l => by
    induction l with
    | nil => rfl
    | cons a l ih =>
      rw [List.map_cons, NestedKey.depthAll, ih]
      rfl
  unfold keyN
  simp only [NestedKey.depth, NestedKey.depthAll, h]
  decide
def mkN : Nat → List Nd → List Addr → List Rw
  | i, x :: xs, a :: as => (keyN x, a, .int (i : Nat)) :: mkN (i + 1) xs as
  | _, _, _ => []
theorem mkN_snoc : ∀ {xs : List Nd} {as : List Addr} (i : Nat) (x : Nd) (a : Addr), as.length = xs.length → mkN i (xs ++ [x]) (as ++ [a]) = mkN i xs as ++ [(keyN x, a, .int ((i + xs.length : Nat)))]
  | [], [], i, x, a, _ => rfl
  | [], _ :: _, _, _, _, h => by cases h
  | _ :: _, [], _, _, _, h => by cases h
  | y :: xs, b :: as, i, x, a, h => by
    show (keyN y, b, V.int (i : Nat)) :: mkN (i + 1) (xs ++ [x]) (as ++ [a]) = _
    rw [mkN_snoc (i + 1) x a (Nat.succ.inj h), List.length_cons, show i + 1 + xs.length = i + (xs.length + 1) by omega]
    rfl
theorem mkN_len : ∀ {xs : List Nd} {as : List Addr} (i : Nat), as.length = xs.length → (mkN i xs as).length = xs.length
  | [], [], _, _ => rfl
  | [], _ :: _, _, h => by cases h
  | _ :: _, [], _, h => by cases h
  | y :: xs, b :: as, i, h => by
    show (mkN (i + 1) xs as).length + 1 = _
    rw [mkN_len (i + 1) (Nat.succ.inj h)]
    rfl
theorem mkN_at (x : Nd) : ∀ {xs : List Nd} {as : List Addr} (i : Nat), as.length = xs.length → at? (mkN i xs as) (keyN x) = if x ∈ xs then some (.int ((i + xs.idxOf x : Nat))) else none
  | [], [], _, _ => rfl
  | [], _ :: _, _, h => by cases h
  | _ :: _, [], _, h => by cases h
  | y :: xs, b :: as, i, h => by
    have ih := mkN_at x (xs := xs) (as := as) (i + 1) (Nat.succ.inj h)
    show at? ((keyN y, b, V.int (i : Nat)) :: mkN (i + 1) xs as) (keyN x) = _
    by_cases e : y = x
    · subst e
      rw [if_pos List.mem_cons_self]
      simp [at?, List.idxOf_cons_self]
    · have ek : ¬ keyN y = keyN x := fun q => e (keyN_inj q)
      have e1 : at? ((keyN y, b, V.int (i : Nat)) :: mkN (i + 1) xs as) (keyN x) = at? (mkN (i + 1) xs as) (keyN x) := by simp [at?, ek]
      rw [e1, ih]
      by_cases m : x ∈ xs
      · rw [if_pos m, if_pos (List.mem_cons_of_mem _ m), List.idxOf_cons, (by simpa using e : (y == x) = false), show (bif false then 0 else xs.idxOf x + 1) = xs.idxOf x + 1 from rfl, show i + 1 + xs.idxOf x = i + (xs.idxOf x + 1) by omega]
      · rw [if_neg m, if_neg (fun q => (List.mem_cons.mp q).elim (fun z => e z.symm) m)]
theorem ints_kv {H : Hp} : ∀ l : List Int, KVs H (l.map .num) (l.map V.int)
  | [] => .nil
  | x :: l => .cons (.int x) (ints_kv l)
/-- this tuple is this node -/
def isN (H : Hp) (a : Addr) (x : Nd) : Prop := ∃ th, H a = some (.tup [.int x.1, .ref th]) ∧ H th = some (.tup (x.2.map V.int))
theorem isN.kv {H : Hp} {a : Addr} {x : Nd} (h : isN H a x) : KV1 H (keyN x) (.ref a) := by
  obtain ⟨th, h1, h2⟩ := h
  exact .tup h1 (.cons (.int _) (.cons (.tup h2 (ints_kv _)) .nil))
theorem mkN_in {H : Hp} : ∀ {xs : List Nd} {as : List Addr} (i : Nat), (∀ (j : Nat) a x, as[j]? = some a → xs[j]? = some x → isN H a x) → keysIn H (mkN i xs as)
  | [], [], _, _ => fun _ m => nomatch m
  | [], _ :: _, _, _ => fun _ m => nomatch m
  | _ :: _, [], _, _ => fun _ m => nomatch m
  | y :: xs, b :: as, i, h => fun q m => by
    rcases List.mem_cons.mp (show q ∈ (keyN y, b, V.int (i : Nat)) :: mkN (i + 1) xs as from m) with e | m
    · rw [e]
      exact ⟨(h 0 b y rfl rfl).kv, depthN y⟩
    · exact mkN_in (i + 1) (fun j a x h1 h2 => h (j + 1) a x h1 h2) q m
def nf (sp tl D : Addr) : List (Str × V) := [("spots", .ref sp), ("_told", .ref tl), ("_numbers", .ref D)]
theorem nf_t (sp tl D : Addr) : (nf sp tl D).lookup ("_told" : Str) = some (.ref tl) := by
  unfold nf
  rw [look_cons, if_neg (by decide +kernel), look_cons, if_pos rfl]
theorem nf_n (sp tl D : Addr) : (nf sp tl D).lookup ("_numbers" : Str) = some (.ref D) := by
  unfold nf
  rw [look_cons, if_neg (by decide +kernel), look_cons, if_neg (by decide +kernel), look_cons, if_pos rfl]
theorem nf_no (sp tl D : Addr) {x : Str} (h1 : ¬ x = "spots") (h2 : ¬ x = "_told") (h3 : ¬ x = "_numbers") : (nf sp tl D).lookup x = none := by
  unfold nf
  rw [look_cons, if_neg h1, look_cons, if_neg h2, look_cons, if_neg h3]
  rfl
/-- a table of nodes -/
structure NdAt (P : Program) (w : World) (C : Addr) (H : Hp) (r sp tl D : Addr) (xs : List Nd) (as : List Addr) : Prop where
  ob : ∃ dx, H r = some (.ins C dx (nf sp tl D))
  tl : H tl = some (.lst (as.map V.ref))
  len : as.length = xs.length
  dt : ∀ (j : Nat) a x, as[j]? = some a → xs[j]? = some x → isN H a x
  db : H D = some (tbl P w D (mkN 0 xs as))
  nd : xs.Nodup
structure NC (K : PySem.W.Frag) (C : Addr) : Prop where
  cl : Cls K C
  n1 : NoAttr K C "spots"
  n2 : NoAttr K C "_told"
  n3 : NoAttr K C "_numbers"
def addN (xs : List Nd) (x : Nd) : List Nd := if x ∈ xs then xs else xs ++ [x]
def spNode (P : Program) (w : World) (C : Addr) : Sp := fun vs H Q _ => ∃ (r sp tl D th : Addr) (xs : List Nd) (as : List Addr) (x : Nd), vs = [.ref r, .int x.1, .ref th] ∧ NdAt P w C H r sp tl D xs as ∧ H th = some (.tup (x.2.map V.int)) ∧ xs.length ≤ 900 ∧
  ∀ (as' : List Addr) (H' : Hp), Ks [tl, D] H H' → NdAt P w C H' r sp tl D (addN xs x) as' → Q (.int ((addN xs x).idxOf x : Nat)) H'
def spTold (P : Program) (w : World) (C : Addr) : Sp := fun vs H Q _ => ∃ (r sp tl D a : Addr) (xs : List Nd) (as : List Addr) (j : Nat), vs = [.ref r, .int (j : Nat)] ∧ NdAt P w C H r sp tl D xs as ∧ as[j]? = some a ∧ Q (.ref a) H
def spManyN (P : Program) (w : World) (C : Addr) : Sp := fun vs H Q _ => ∃ (r sp tl D : Addr) (xs : List Nd) (as : List Addr), vs = [.ref r] ∧ NdAt P w C H r sp tl D xs as ∧ Q (.int (xs.length : Nat)) H
section
variable {P : Program} {w : World} {K : PySem.W.Frag} {mg : Str → Option Value} {base : Heap} {f C : Addr} {fd : FuncData}
abbrev sNMany : Stmt := inClass (topS 13) 4
theorem scNMany : FnScope ["self"] ["self"] (defScope sNMany) := ⟨rfl, rfl, rfl, by decide +kernel, rfl, by decide +kernel, by decide +kernel⟩
theorem ok_manyN (F : Fun K "many" "Nodes.many" sNMany f fd) (R : NC K C) (B : Bt mg) : FnOk P w K mg base CX0 1 f fd ["self"] (spManyN P w C) := by
  have ml := B.len
  refine F.ok scNMany (fun vs H Q E h => ?_) (fun cdv A outer s H vs Q E hr h => ?_)
  · obtain ⟨r, sp, tl, D, xs, as, rfl, _⟩ := h
    rfl
  obtain ⟨r, sp, tl, D, xs, as, rfl, N, q⟩ := h
  refine ⟨_, (pss_one (ps_ret (pe_callB (call_lenK (K := K) rfl) (by rfl) ml PySem.boot_len (pa_cons (pe_fld (pv 0) rfl) pa_nil)))), ?_⟩
  obtain ⟨dx, ho⟩ := N.ob
  refine ⟨_, rfl, r, C, dx, _, _, rfl, ho, R.cl, R.n2, nf_t _ _ _, tl, _, rfl, .inl (SqL.of N.tl), ?_⟩
  rw [List.length_map, N.len]
  exact q
abbrev sNTold : Stmt := inClass (topS 13) 3
theorem scNTold : FnScope ["self", "number"] ["self", "number"] (defScope sNTold) := ⟨rfl, rfl, rfl, by decide +kernel, rfl, by decide +kernel, by decide +kernel⟩
theorem ok_told (F : Fun K "told" "Nodes.told" sNTold f fd) (R : NC K C) : FnOk P w K mg base CX0 1 f fd ["self", "number"] (spTold P w C) := by
  refine F.ok scNTold (fun vs H Q E h => ?_) (fun cdv A outer s H vs Q E hr h => ?_)
  · obtain ⟨r, sp, tl, D, a, xs, as, j, rfl, _⟩ := h
    rfl
  obtain ⟨r, sp, tl, D, a, xs, as, j, rfl, N, ha, q⟩ := h
  refine ⟨_, (pss_one (ps_ret (pe_ix (ix_listK (K := K) rfl) (pe_fld (pv 0) rfl) (pv 1) (fun _ _ => rfl)))), ?_⟩
  obtain ⟨dx, ho⟩ := N.ob
  exact ⟨_, rfl, r, C, dx, _, _, rfl, ho, R.cl, R.n2, nf_t _ _ _, _, rfl, tl, _, _, _, rfl, rfl, SqL.of N.tl, at_of (j := j) rfl (by rw [List.getElem?_map, ha]; rfl), q⟩
abbrev sNNode : Stmt := inClass (topS 13) 1
theorem scNNode : FnScope ["self", "place", "things", "node"] ["self", "place", "things"] (defScope sNNode) := ⟨rfl, rfl, rfl, by decide +kernel, rfl, by decide +kernel, by decide +kernel⟩
theorem ok_node (F : Fun K "node" "Nodes.node" sNNode f fd) (R : NC K C) (B : Bt mg) : FnOk P w K mg base CX0 1 f fd ["self", "place", "things"] (spNode P w C) := by
  have ml := B.len
  refine F.ok scNNode (fun vs H Q E h => ?_) (fun cdv A outer s H vs Q E hr h => ?_)
  · obtain ⟨r, sp, tl, D, th, xs, as, x, rfl, _⟩ := h
    rfl
  have hu64 := hr.units
  obtain ⟨r, sp, tl, D, th, xs, as, x, rfl, N, hth, hl9, q⟩ := h
  refine ⟨_, (pss_cons (ps_set (i := 3) scNNode.nd rfl (.inl rfl) (pe_tup (pa_cons (pv 1) (pa_cons (pv 2) pa_nil))))
    (pss_cons (ps_if (pt_cmpR (NKd.op_not hu64) (pv 3) (pe_fld (pv 0) rfl) rfl) (pss_cons (ps_asg (pe_callB (call_lenK (K := K) rfl) (by rfl) ml PySem.boot_len (pa_cons (pe_fld (pv 0) rfl) pa_nil)) (pg_sub (pe_fld (pv 0) rfl) (pv 3) (NKd.set_new hu64)))
    (pss_one (ps_expr (pe_bmK (K := K) rfl PySem.F.plainAttrs_list PySem.F.slot_list_append PySem.F.type_list_append mt_append (pe_fld (pv 0) rfl) (pa_cons (pv 3) pa_nil))))) pss_nil)
    (pss_one (ps_ret (pe_ix (NKd.ix_get hu64) (pe_fld (pv 0) rfl) (pv 3) (fun _ _ => rfl)))))), ?_⟩
  obtain ⟨dx, ho⟩ := N.ob
  refine ⟨_, rfl, _, rfl, (by show 2 ≤ sizeLine; decide), fun T hT => ?_⟩
  have kT : Kp [] H (upd H T (.tup [.int x.1, .ref th])) := Kp.new hT
  have go : ∀ {a o}, H a = some o → (upd H T (.tup [.int x.1, .ref th])) a = some o := fun e => kT _ _ e (fun m => nomatch m)
  have hT1 : (upd H T (.tup [.int x.1, .ref th])) T = some (.tup [.int x.1, .ref th]) := upd_same
  have N1 : NdAt P w C (upd H T (.tup [.int x.1, .ref th])) r sp tl D xs as := ⟨⟨dx, go ho⟩, go N.tl, N.len, fun j a y h1 h2 => by
    obtain ⟨t2, g1, g2⟩ := N.dt j a y h1 h2
    exact ⟨t2, go g1, go g2⟩, go N.db, N.nd⟩
  have hx1 : isN (upd H T (.tup [.int x.1, .ref th])) T x := ⟨th, hT1, go hth⟩
  have k1 : Ks [tl, D] H (upd H T (.tup [.int x.1, .ref th])) := Ks.of kT
  generalize upd H T (.tup [.int x.1, .ref th]) = H1 at N1 hx1 k1 ⊢
  obtain ⟨dx1, ho1⟩ := N1.ob
  have ki := mkN_in 0 N1.dt
  have ml0 := mkN_len (xs := xs) (as := as) 0 N1.len
  have hat := mkN_at x (xs := xs) (as := as) 0 N1.len
  refine ⟨_, rfl, _, rfl, r, C, dx1, _, _, rfl, ho1, R.cl, R.n3, nf_n _ _ _, T, keyN x, D, _, rfl, rfl, N1.db, ki, hx1.kv, depthN x, _, rfl, ?_⟩
  rw [hat]
  by_cases m : x ∈ xs
  · rw [if_pos m]
    refine iteF ?_
    refine ⟨_, rfl, r, C, dx1, _, _, rfl, ho1, R.cl, R.n3, nf_n _ _ _, _, rfl, T, keyN x, D, _, .int ((0 + xs.idxOf x : Nat)), rfl, rfl, N1.db, ki, hx1.kv, depthN x, by rw [hat, if_pos m], ?_⟩
    have e : addN xs x = xs := if_pos m
    have := q as H1 k1 (by rw [e]; exact N1)
    rw [e] at this
    rw [Nat.zero_add]
    exact this
  · rw [if_neg m]
    refine iteT ?_
    have sz : xs.length < sizeLine := by have := small1000 (n := xs.length) (by omega); exact this
    refine ⟨_, rfl, r, C, dx1, _, _, rfl, ho1, R.cl, R.n2, nf_t _ _ _, tl, _, rfl, .inl (SqL.of N1.tl), ?_⟩
    refine ⟨_, rfl, r, C, dx1, _, _, rfl, ho1, R.cl, R.n3, nf_n _ _ _, _, rfl, T, keyN x, D, _, rfl, rfl, N1.db, ki, hx1.kv, depthN x, by rw [hat, if_neg m], by rw [ml0]; exact sz, ?_⟩
    have hD1 := N1.db
    have ntl : tl ≠ D := fun e => by
      have := N1.tl
      rw [e, hD1] at this
      cases this
    have nr1 : r ≠ D := fun e => by
      rw [e, hD1] at ho1
      cases ho1
    have nr2 : r ≠ tl := fun e => by
      have := N1.tl
      rw [← e, ho1] at this
      cases this
    have htl2 : (upd H1 D (tbl P w D (mkN 0 xs as ++ [(keyN x, T, V.int ((as.map V.ref).length : Nat))]))) tl = some (.lst (as.map V.ref)) := by rw [upd_ne ntl]; exact N1.tl
    have ho2 : (upd H1 D (tbl P w D (mkN 0 xs as ++ [(keyN x, T, V.int ((as.map V.ref).length : Nat))]))) r = some (.ins C dx1 (nf sp tl D)) := by rw [upd_ne nr1]; exact ho1
    refine ⟨_, rfl, r, C, dx1, _, _, rfl, ho2, R.cl, R.n2, nf_t _ _ _, .inl ⟨rfl, _, SqL.of htl2⟩, _, rfl, tl, _, _, rfl, rfl, htl2, by rw [List.length_map, N1.len]; exact small1000 (by omega), ?_⟩
    have e0 : (V.int ((as.map V.ref).length : Nat)) = .int ((0 + xs.length : Nat)) := by rw [List.length_map, N1.len, Nat.zero_add]
    rw [e0, ← mkN_snoc 0 x T N1.len]
    have e1 : as.map V.ref ++ [V.ref T] = (as ++ [T]).map V.ref := by rw [List.map_append]; rfl
    rw [e1]
    have kk : Ks [tl, D] H1 (upd (upd H1 D (tbl P w D (mkN 0 (xs ++ [x]) (as ++ [T])))) tl (.lst ((as ++ [T]).map V.ref))) := (Ks.at (by simp)).trans (Ks.at (by simp))
    have kT : ∀ {a us}, H1 a = some (.tup us) → (upd (upd H1 D (tbl P w D (mkN 0 (xs ++ [x]) (as ++ [T])))) tl (.lst ((as ++ [T]).map V.ref))) a = some (.tup us) := fun {a us} e => kk _ _ e (fun q => by
      simp only [List.mem_cons, List.not_mem_nil, or_false] at q
      rcases q with rfl | rfl
      · rw [N1.tl] at e; cases e
      · rw [hD1] at e; cases e)
    have N3 : NdAt P w C (upd (upd H1 D (tbl P w D (mkN 0 (xs ++ [x]) (as ++ [T])))) tl (.lst ((as ++ [T]).map V.ref))) r sp tl D (xs ++ [x]) (as ++ [T]) := ⟨⟨dx1, by rw [upd_ne nr2, upd_ne nr1]; exact ho1⟩, upd_same, by rw [List.length_append, List.length_append, N1.len]; rfl, fun j a y h1 h2 => by
      have hx : isN H1 a y := by
        by_cases hj : j < xs.length
        · rw [List.getElem?_append_left (by rw [N1.len]; exact hj)] at h1
          rw [List.getElem?_append_left hj] at h2
          exact N1.dt j a y h1 h2
        · have hj2 : j = xs.length := by
            have := (List.getElem?_eq_some_iff.mp h2).1
            rw [List.length_append] at this
            simp at this
            omega
          subst hj2
          rw [← N1.len, List.getElem?_concat_length] at h1
          rw [List.getElem?_concat_length] at h2
          cases h1
          cases h2
          exact hx1
      obtain ⟨t2, g1, g2⟩ := hx
      exact ⟨t2, kT g1, kT g2⟩, by rw [upd_ne ntl.symm, upd_same], List.nodup_append.mpr ⟨N1.nd, by simp, fun a ha b hb e => by
        rw [List.mem_singleton.mp hb] at e
        exact m (e ▸ ha)⟩⟩
    have hx3 : isN (upd (upd H1 D (tbl P w D (mkN 0 (xs ++ [x]) (as ++ [T])))) tl (.lst ((as ++ [T]).map V.ref))) T x := by
      obtain ⟨t2, g1, g2⟩ := hx1
      exact ⟨t2, kT g1, kT g2⟩
    have ki3 := mkN_in 0 N3.dt
    have hat3 := mkN_at x (xs := xs ++ [x]) (as := as ++ [T]) 0 N3.len
    obtain ⟨dx3, ho3⟩ := N3.ob
    refine ⟨_, rfl, r, C, dx3, _, _, rfl, ho3, R.cl, R.n3, nf_n _ _ _, _, rfl, T, keyN x, D, _, .int ((0 + (xs ++ [x]).idxOf x : Nat)), rfl, rfl, N3.db, ki3, hx3.kv, depthN x, by rw [hat3, if_pos (by simp)], ?_⟩
    have e : addN xs x = xs ++ [x] := if_neg m
    have := q _ _ (k1.trans kk) (by rw [e]; exact N3)
    rw [e] at this
    rw [Nat.zero_add]
    exact this
end
end Lz

set_option Elab.async false
set_option linter.all false
set_option maxRecDepth 100000
set_option maxHeartbeats 8000000
namespace Lz
open PySem PySem.Spec PyProof.Rows L2 NKd
section
variable {K : PySem.W.Frag} {C : Addr} {S : List Addr} {H H' : Hp} {r p i m n b w : Addr} {ps : List (Lz.P × List Int)} {nm : List (Int × Nv)} {bd wt : List (Str × Int)}
/-- what is new is none of its own -/
theorem SpE.moreS {l : Addr} (h : SpE K C S H r p i m n b w ps nm bd wt) (hl : H l = none) : SpE K C (l :: S) H r p i m n b w ps nm bd wt := by
  obtain ⟨⟨dx, h0⟩, ⟨xs, h1, hx⟩, ⟨ys, h2, hy⟩, ⟨zs, h3, l3⟩, ⟨k4, h4, g4⟩, ⟨k5, h5, g5⟩, ⟨k6, h6, g6⟩, n1, n2, n3, n4, n5, n6, av⟩ := h
  refine ⟨⟨dx, h0⟩, ⟨xs, h1, hx⟩, ⟨ys, h2, ?_⟩, ⟨zs, h3, l3⟩, ⟨k4, h4, g4⟩, ⟨k5, h5, g5⟩, ⟨k6, h6, g6⟩, n1, n2, n3, n4, n5, n6, fun x mx q => ?_⟩
  · refine DpSs.less (S := l :: p :: i :: m :: S) (fun y my => ?_) _ _ (DpSs.more hl _ _ hy)
    simp only [List.mem_cons] at my ⊢
    rcases my with q | q | q | q | q
    · exact .inr (.inl q)
    · exact .inr (.inr (.inl q))
    · exact .inr (.inr (.inr (.inl q)))
    · exact .inl q
    · exact .inr (.inr (.inr (.inr q)))
  · rcases List.mem_cons.mp q with e | q
    · subst e
      simp only [List.mem_cons, List.not_mem_nil, or_false] at mx
      rcases mx with e | e | e | e | e | e | e
      · rw [e, h0] at hl; cases hl
      · rw [e, h1] at hl; cases hl
      · rw [e, h2] at hl; cases hl
      · rw [e, h3] at hl; cases hl
      · rw [e, h4] at hl; cases hl
      · rw [e, h5] at hl; cases hl
      · rw [e, h6] at hl; cases hl
    · exact av x mx q
/-- kept where only what it does not own changes -/
theorem SpE.keepU {T : List Addr} (h : SpE K C S H r p i m n b w ps nm bd wt) (k : Ks T H H') (hT : ∀ x, x ∈ T → x ∈ S) (n0 : NoT T H) : SpE K C S H' r p i m n b w ps nm bd wt :=
  h.keepT k (fun x mx o e => ⟨(n0 x mx o e).1, (n0 x mx o e).2, fun vs _ => List.mem_cons_of_mem _ (List.mem_cons_of_mem _ (List.mem_cons_of_mem _ (hT x mx)))⟩) (fun x mx q => h.av x mx (hT x q))
theorem SpE.lessS {S' : List Addr} (h : SpE K C S H r p i m n b w ps nm bd wt) (hS : ∀ x, x ∈ S' → x ∈ S) : SpE K C S' H r p i m n b w ps nm bd wt := by
  obtain ⟨h0, h1, ⟨ys, h2, hy⟩, h3, h4, h5, h6, n1, n2, n3, n4, n5, n6, av⟩ := h
  refine ⟨h0, h1, ⟨ys, h2, ?_⟩, h3, h4, h5, h6, n1, n2, n3, n4, n5, n6, fun x mx q => av x mx (hS x q)⟩
  refine DpSs.less (fun y my => ?_) _ _ hy
  simp only [List.mem_cons] at my ⊢
  rcases my with q | q | q | q
  · exact .inl q
  · exact .inr (.inl q)
  · exact .inr (.inr (.inl q))
  · exact .inr (.inr (.inr (hS y q)))
end
/-- the places of a program, at sp -/
def SpP (K : PySem.W.Frag) (C : Addr) (S : List Addr) (H : Hp) (sp : Addr) (gs : List Fn) : Prop := ∃ p i m n b w, SpE K C S H sp p i m n b w (allPs 0 gs) (allNm 0 gs) (bds 0 gs) (wts gs)
section
variable {K : PySem.W.Frag} {C : Addr} {S : List Addr} {H H' : Hp} {sp : Addr} {gs : List Fn}
theorem SpP.moreS {l : Addr} (h : SpP K C S H sp gs) (hl : H l = none) : SpP K C (l :: S) H sp gs := by
  obtain ⟨p, i, m, n, b, w, h⟩ := h
  exact ⟨p, i, m, n, b, w, h.moreS hl⟩
theorem SpP.keepU {T : List Addr} (h : SpP K C S H sp gs) (k : Ks T H H') (hT : ∀ x, x ∈ T → x ∈ S) (n0 : NoT T H) : SpP K C S H' sp gs := by
  obtain ⟨p, i, m, n, b, w, h⟩ := h
  exact ⟨p, i, m, n, b, w, h.keepU k hT n0⟩
theorem SpP.lessS {S' : List Addr} (h : SpP K C S H sp gs) (hS : ∀ x, x ∈ S' → x ∈ S) : SpP K C S' H sp gs := by
  obtain ⟨p, i, m, n, b, w, h⟩ := h
  exact ⟨p, i, m, n, b, w, h.lessS hS⟩
theorem SpP.keep (h : SpP K C S H sp gs) (k : Kp [] H H') : SpP K C S H' sp gs := by
  obtain ⟨p, i, m, n, b, w, h⟩ := h
  exact ⟨p, i, m, n, b, w, h.keep k⟩
end
/-- by places: part, places within, what is named -/
def allG : Int → List Fn → List Gr
  | _, [] => []
  | q, g :: gs => grs (lk (Lf g.2.1 q g.2.2.all)) q g.2.2.all ++ allG (q + (g.2.2.many : Int)) gs
theorem allG_ps : ∀ (q : Int) (gs : List Fn), (allG q gs).map (fun g => (g.1, g.2.1)) = allPs q gs
  | _, [] => rfl
  | q, g :: gs => by
    show (grs _ q g.2.2.all ++ allG _ gs).map _ = _
    rw [List.map_append, psOf_grs, allG_ps]
    rfl
theorem allG_len (q : Int) (gs : List Fn) : (allG q gs).length = manyF gs := by
  rw [← allPs_len q gs, ← allG_ps, List.length_map]
theorem allG_snoc : ∀ (q : Int) (gs : List Fn) (g : Fn), allG q (gs ++ [g]) = allG q gs ++ grs (lk (Lf g.2.1 (q + (manyF gs : Int)) g.2.2.all)) (q + (manyF gs : Int)) g.2.2.all
  | q, [], g => by
    show grs (lk (Lf g.2.1 q g.2.2.all)) q g.2.2.all ++ [] = [] ++ grs (lk (Lf g.2.1 (q + ((0 : Nat) : Int)) g.2.2.all)) (q + ((0 : Nat) : Int)) g.2.2.all
    simp
  | q, a :: gs, g => by
    have e : q + (manyF (a :: gs) : Int) = q + (a.2.2.many : Int) + (manyF gs : Int) := by rw [manyF_cons]; omega
    show grs _ q a.2.2.all ++ allG _ (gs ++ [g]) = (grs _ q a.2.2.all ++ allG _ gs) ++ _
    rw [e, allG_snoc, List.append_assoc]
theorem allG_nm : ∀ (q : Int) (gs : List Fn) (j : Nat) (d : Lz.P) (il : List Int) (v : Nv), (allG q gs)[j]? = some (d, il, some v) → (q + (j : Int), v) ∈ allNm q gs
  | _, [], j, d, il, v, h => by cases h
  | q, g :: gs, j, d, il, v, h => by
    have h : (grs (lk (Lf g.2.1 q g.2.2.all)) q g.2.2.all ++ allG (q + (g.2.2.many : Int)) gs)[j]? = some (d, il, some v) := h
    have hl := grs_len (lk (Lf g.2.1 q g.2.2.all)) q g.2.2.all
    have hm := all_len g.2.2
    show _ ∈ nmE _ q g.2.2.all ++ allNm _ gs
    by_cases hj : j < g.2.2.all.length
    · rw [List.getElem?_append_left (by rw [hl]; exact hj)] at h
      have e := List.getElem?_eq_getElem hj
      have e2 := grs_at (lk (Lf g.2.1 q g.2.2.all)) q g.2.2.all j _ e
      rw [h] at e2
      injection e2 with e2
      injection e2 with e3 e4
      injection e4 with e5 e6
      exact List.mem_append_left _ (nmE_at _ _ _ _ _ _ e e6.symm)
    · rw [List.getElem?_append_right (by rw [hl]; omega), hl] at h
      have := allG_nm _ gs _ d il v h
      refine List.mem_append_right _ ?_
      have e : q + (j : Int) = q + (g.2.2.many : Int) + ((j - g.2.2.all.length : Nat) : Int) := by omega
      rw [e]
      exact this
/-- for each place how many things its function has -/
def szF (gs : List Fn) : List Nat := gs.flatMap fun g => List.replicate g.2.2.many g.2.1.length
theorem thg_in : ∀ (k : Int) (ns : List Str) (e : Str × Nv), e ∈ thg k ns → e.2.1 = "thing" ∧ k ≤ e.2.2 ∧ e.2.2 < k + (ns.length : Int)
  | _, [], _, m => nomatch m
  | k, x :: xs, e, m => by
    rcases List.mem_cons.mp (show e ∈ (x, (("thing" : Str), k)) :: thg (k + 1) xs from m) with rfl | m
    · refine ⟨rfl, Int.le_refl _, ?_⟩
      show k < k + ((xs.length + 1 : Nat) : Int)
      omega
    · obtain ⟨h1, h2, h3⟩ := thg_in (k + 1) xs e m
      refine ⟨h1, by omega, ?_⟩
      show e.2.2 < k + ((xs.length + 1 : Nat) : Int)
      omega
theorem rows_in (q : Int) (ds : List Lz.P) (e : Str × Nv) (m : e ∈ rws q ds) : e.2.1 = "row" := by
  induction ds generalizing q with
  | nil => exact nomatch m
  | cons d ds ih =>
    rcases List.mem_append.mp (show e ∈ rowsOf q d ++ rws (q + 1) ds from m) with m | m
    · unfold rowsOf at m
      obtain ⟨x, v⟩ := e
      have := (List.of_mem_zip m).2
      obtain ⟨n, _, e2⟩ := List.mem_map.mp this
      rw [← e2]
    · exact ih (q + 1) m
/-- what stands at a place -/
def Pl (gr : Gr) (k : Nat) : Prop := (gr.2.2 = none ∧ gr.1.hd ≠ "name") ∨ ∃ v : Nv, gr.2.2 = some v ∧ gr.1.hd = "name" ∧ (v.1 = "thing" ∧ 0 ≤ v.2 ∧ v.2 < (k : Int) ∨ v.1 = "row")
theorem body_pl {g : Fn} {q : Int} {F : List Str} (hb : BodyOk g.2.2) (hft : g.2.2.fit F g.2.1) {j : Nat} {gr : Gr} (h : (grs (lk (Lf g.2.1 q g.2.2.all)) q g.2.2.all)[j]? = some gr) : Pl gr g.2.1.length := by
  have hj : j < g.2.2.all.length := by
    have := (List.getElem?_eq_some_iff.mp h).1
    rwa [grs_len] at this
  have e := List.getElem?_eq_getElem hj
  have hdm := List.getElem_mem hj
  generalize g.2.2.all[j] = d at e hdm
  have e2 := grs_at (lk (Lf g.2.1 q g.2.2.all)) q g.2.2.all j _ e
  rw [h] at e2
  obtain rfl := Option.some.inj e2
  have dok := (all_ok g.2.2 hb.ok d hdm).1
  cases d with
  | num i => exact .inl ⟨rfl, show ¬ ("number" : Str) = "name" by decide +kernel⟩
  | fn x => exact .inl ⟨rfl, show ¬ ("fun" : Str) = "name" by decide +kernel⟩
  | op k as => exact .inl ⟨rfl, (kind_plain (show (k, as.length) ∈ kinds ∧ Lz.P.oks as from dok).1).2.2.1⟩
  | lt nm as b => exact .inl ⟨rfl, show ¬ ("let" : Str) = "name" by decide +kernel⟩
  | nam x =>
    have allok : ∀ d, d ∈ g.2.2.all → d.ok := fun d hd => (all_ok g.2.2 hb.ok d hd).1
    have mx : x ∈ (Lf g.2.1 q g.2.2.all).map (·.1) := by
      rw [rows_names allok]
      exact List.mem_append.mpr (nam_known g.2.2 g.2.1 hft x hdm)
    obtain ⟨v, hv⟩ : ∃ v, lk (Lf g.2.1 q g.2.2.all) x = some v := by
      cases hq : lk (Lf g.2.1 q g.2.2.all) x with
      | some v => exact ⟨v, rfl⟩
      | none =>
        obtain ⟨e0, me0, ee0⟩ := List.mem_map.mp mx
        unfold lk at hq
        rw [Option.map_eq_none_iff, List.find?_eq_none] at hq
        exact absurd (decide_eq_true ee0) (hq e0 me0)
    refine .inr ⟨v, hv, rfl, ?_⟩
    have hm := lk_in hv
    unfold Lf at hm
    rcases List.mem_append.mp hm with hm | hm
    · obtain ⟨h1, h2, h3⟩ := thg_in _ _ _ hm
      exact .inl ⟨h1, h2, by simpa using h3⟩
    · exact .inr (rows_in _ _ _ hm)
theorem allG_pl {F : List Str} : ∀ (q : Int) (gs : List Fn), (∀ g, g ∈ gs → BodyOk g.2.2 ∧ g.2.2.fit F g.2.1) → ∀ (j : Nat) (gr : Gr), (allG q gs)[j]? = some gr → ∃ k, (szF gs)[j]? = some k ∧ Pl gr k
  | _, [], _, j, gr, h => by cases h
  | q, g :: gs, hg, j, gr, h => by
    have h : (grs (lk (Lf g.2.1 q g.2.2.all)) q g.2.2.all ++ allG (q + (g.2.2.many : Int)) gs)[j]? = some gr := h
    have hl := grs_len (lk (Lf g.2.1 q g.2.2.all)) q g.2.2.all
    have hm := all_len g.2.2
    have e : szF (g :: gs) = List.replicate g.2.2.many g.2.1.length ++ szF gs := by
      unfold szF
      rw [List.flatMap_cons]
    rw [e]
    obtain ⟨h1, h2⟩ := hg g List.mem_cons_self
    by_cases hj : j < g.2.2.all.length
    · rw [List.getElem?_append_left (by rw [hl]; exact hj)] at h
      refine ⟨g.2.1.length, ?_, body_pl h1 h2 h⟩
      rw [List.getElem?_append_left (by rw [List.length_replicate]; omega), List.getElem?_replicate, if_pos (by omega)]
    · rw [List.getElem?_append_right (by rw [hl]; omega), hl] at h
      obtain ⟨k, e1, e2⟩ := allG_pl _ gs (fun x m => hg x (List.mem_cons_of_mem _ m)) _ _ h
      refine ⟨k, ?_, e2⟩
      rw [List.getElem?_append_right (by rw [List.length_replicate]; omega), List.length_replicate, ← hm]
      exact e1
theorem szF_len (gs : List Fn) : (szF gs).length = manyF gs := by
  induction gs with
  | nil => rfl
  | cons g gs ih =>
    have e : szF (g :: gs) = List.replicate g.2.2.many g.2.1.length ++ szF gs := by
      unfold szF
      rw [List.flatMap_cons]
    rw [e, List.length_append, List.length_replicate, manyF_cons, ih]
/-! ### what the table tells -/
def spPartS (K : PySem.W.Frag) (C : Addr) : Sp := fun vs H Q _ => ∃ (r p i m n b w : Addr) (S : List Addr) (ps : List (Lz.P × List Int)) (nm : List (Int × Nv)) (bd wt : List (Str × Int)) (j : Nat) (e : Lz.P × List Int), vs = [.ref r, .int (j : Nat)] ∧ SpE K C S H r p i m n b w ps nm bd wt ∧ ps[j]? = some e ∧ ∀ v, Dp K H v e.1.data → Q v H
def spInnerS (K : PySem.W.Frag) (C : Addr) : Sp := fun vs H Q _ => ∃ (r p i m n b w : Addr) (S : List Addr) (ps : List (Lz.P × List Int)) (nm : List (Int × Nv)) (bd wt : List (Str × Int)) (j : Nat) (e : Lz.P × List Int) (k : Int) (z : Int), vs = [.ref r, .int (j : Nat), .int k] ∧ SpE K C S H r p i m n b w ps nm bd wt ∧ ps[j]? = some e ∧ atI (e.2.map V.int) k = some (.int z) ∧ Q (.int z) H
def spNamedS (K : PySem.W.Frag) (C : Addr) : Sp := fun vs H Q _ => ∃ (r p i m n b w : Addr) (S : List Addr) (ps : List (Lz.P × List Int)) (nm : List (Int × Nv)) (bd wt : List (Str × Int)) (z : Int) (v : Nv), vs = [.ref r, .int z] ∧ SpE K C S H r p i m n b w ps nm bd wt ∧ (z, v) ∈ nm ∧ ∀ a, SqT K H a [.str v.1, .int v.2] → Q (.ref a) H
def spBodyS (K : PySem.W.Frag) (C : Addr) : Sp := fun vs H Q _ => ∃ (r p i m n b w : Addr) (S : List Addr) (ps : List (Lz.P × List Int)) (nm : List (Int × Nv)) (bd wt : List (Str × Int)) (f : Str) (z : Int), vs = [.ref r, .str f] ∧ SpE K C S H r p i m n b w ps nm bd wt ∧ (f, z) ∈ bd ∧ Q (.int z) H
def spWantedS (K : PySem.W.Frag) (C : Addr) : Sp := fun vs H Q _ => ∃ (r p i m n b w : Addr) (S : List Addr) (ps : List (Lz.P × List Int)) (nm : List (Int × Nv)) (bd wt : List (Str × Int)) (f : Str) (z : Int), vs = [.ref r, .str f] ∧ SpE K C S H r p i m n b w ps nm bd wt ∧ (f, z) ∈ wt ∧ Q (.int z) H
section
variable {P : Program} {w : World} {K : PySem.W.Frag} {mg : Str → Option Value} {base : Heap} {f C CS : Addr} {fd : FuncData}
abbrev sSPart : Stmt := inClass (topS 11) 3
theorem scSPart : FnScope ["self", "place"] ["self", "place"] (defScope sSPart) := ⟨rfl, rfl, rfl, by decide +kernel, rfl, by decide +kernel, by decide +kernel⟩
theorem ok_partS (F : Fun K "part" "Spots.part" sSPart f fd) (R : SC K C) : FnOk P w K mg base CX0 1 f fd ["self", "place"] (spPartS K C) := by
  refine F.ok scSPart (fun vs H Q E h => ?_) (fun cdv A outer s H vs Q E hr h => ?_)
  · obtain ⟨r, p, i, m, n, b, w, S, ps, nm, bd, wt, j, e, rfl, _⟩ := h
    rfl
  obtain ⟨r, p, i, m, n, b, w, S, ps, nm, bd, wt, j, e, rfl, S0, he, q⟩ := h
  refine ⟨_, (pss_one (ps_ret (pe_ix (ix_listK (K := K) rfl) (pe_fld (pv 0) rfl) (pv 1) (fun _ _ => rfl)))), ?_⟩
  obtain ⟨⟨dx, ho⟩, ⟨xs, hp, hx⟩, _⟩ := S0
  obtain ⟨u, hu, hd⟩ := hx.get (i := j) (d := e.1.data) (by rw [datas_map, List.getElem?_map, List.getElem?_map, he]; rfl)
  exact ⟨_, rfl, r, C, dx, _, _, rfl, ho, R.cl, R.n1, sf_p _ _ _ _ _ _, _, rfl, p, _, _, _, rfl, rfl, SqL.of hp, at_of (j := j) rfl hu, q u hd⟩
abbrev sSInner : Stmt := inClass (topS 11) 4
theorem scSInner : FnScope ["self", "place", "k"] ["self", "place", "k"] (defScope sSInner) := ⟨rfl, rfl, rfl, by decide +kernel, rfl, by decide +kernel, by decide +kernel⟩
theorem ok_innerS (F : Fun K "inner" "Spots.inner" sSInner f fd) (R : SC K C) : FnOk P w K mg base CX0 1 f fd ["self", "place", "k"] (spInnerS K C) := by
  refine F.ok scSInner (fun vs H Q E h => ?_) (fun cdv A outer s H vs Q E hr h => ?_)
  · obtain ⟨r, p, i, m, n, b, w, S, ps, nm, bd, wt, j, e, k, z, rfl, _⟩ := h
    rfl
  obtain ⟨r, p, i, m, n, b, w, S, ps, nm, bd, wt, j, e, k, z, rfl, S0, he, hz, q⟩ := h
  refine ⟨_, (pss_one (ps_ret (pe_ix (ix_listK (K := K) rfl) (pe_ix (ix_listK (K := K) rfl) (pe_fld (pv 0) rfl) (pv 1) (fun _ _ => rfl)) (pv 2) (fun _ _ => rfl)))), ?_⟩
  obtain ⟨⟨dx, ho⟩, _, ⟨ys, hi, hy⟩, _⟩ := S0
  obtain ⟨u, hu, hd⟩ := (DpSs.dp _ _ hy).get (i := j) (d := grInn e) (by rw [List.getElem?_map, he]; rfl)
  have hd0 : ∃ l, u = .ref l ∧ SqL K H l (e.2.map V.int) := by
    obtain ⟨l, zs, rfl, hl, ha⟩ := Dp.lst_of (ds := e.2.map .int) hd
    have : ∀ (is : List Int) (vs : List V), DpAll K H vs (is.map PyData.int) → vs = is.map V.int := fun is => by
      induction is with
      | nil => intro vs h; cases h; rfl
      | cons a r ih =>
        intro vs h
        cases h with
        | cons h1 h2 =>
          cases h1
          rw [ih _ h2]
          rfl
    rw [this _ _ ha] at hl
    exact ⟨l, rfl, hl⟩
  obtain ⟨l, rfl, hl⟩ := hd0
  exact ⟨_, rfl, r, C, dx, _, _, rfl, ho, R.cl, R.n2, sf_i _ _ _ _ _ _, _, rfl, i, _, _, _, rfl, rfl, SqL.of hi, at_of (j := j) rfl hu, _, rfl, l, _, _, _, rfl, rfl, hl, hz, q⟩
abbrev sSNamed : Stmt := inClass (topS 11) 5
theorem scSNamed : FnScope ["self", "place"] ["self", "place"] (defScope sSNamed) := ⟨rfl, rfl, rfl, by decide +kernel, rfl, by decide +kernel, by decide +kernel⟩
theorem ok_namedS (F : Fun K "named" "Spots.named" sSNamed f fd) (R : SC K C) : FnOk P w K mg base CX0 1 f fd ["self", "place"] (spNamedS K C) := by
  refine F.ok scSNamed (fun vs H Q E h => ?_) (fun cdv A outer s H vs Q E hr h => ?_)
  · obtain ⟨r, p, i, m, n, b, w, S, ps, nm, bd, wt, z, v, rfl, _⟩ := h
    rfl
  have hu := hu_of hr
  obtain ⟨r, p, i, m, n, b, w, S, ps, nm, bd, wt, z, v, rfl, S0, hz, q⟩ := h
  refine ⟨_, (pss_one (ps_ret (pe_dget hu (pe_fld (pv 0) rfl) (pv 1) (fun _ _ => rfl)))), ?_⟩
  obtain ⟨⟨dx, ho⟩, _, _, _, ⟨kv, hn, _, g⟩, _⟩ := S0
  obtain ⟨a, h1, h2⟩ := g _ hz
  exact ⟨_, rfl, r, C, dx, _, _, rfl, ho, R.cl, R.n4, sf_n _ _ _ _ _ _, _, rfl, n, _, rfl, by have := DGet.k (k := Sum.inl z) hn; rw [h1] at this; exact this, q a h2⟩
abbrev sSBody : Stmt := inClass (topS 11) 7
theorem scSBody : FnScope ["self", "f"] ["self", "f"] (defScope sSBody) := ⟨rfl, rfl, rfl, by decide +kernel, rfl, by decide +kernel, by decide +kernel⟩
theorem ok_bodyS (F : Fun K "body" "Spots.body" sSBody f fd) (R : SC K C) : FnOk P w K mg base CX0 1 f fd ["self", "f"] (spBodyS K C) := by
  refine F.ok scSBody (fun vs H Q E h => ?_) (fun cdv A outer s H vs Q E hr h => ?_)
  · obtain ⟨r, p, i, m, n, b, w, S, ps, nm, bd, wt, z, v, rfl, _⟩ := h
    rfl
  have hu := hu_of hr
  obtain ⟨r, p, i, m, n, b, w, S, ps, nm, bd, wt, z, v, rfl, S0, hz, q⟩ := h
  refine ⟨_, (pss_one (ps_ret (pe_dget hu (pe_fld (pv 0) rfl) (pv 1) (fun _ _ => rfl)))), ?_⟩
  obtain ⟨⟨dx, ho⟩, _, _, _, _, ⟨kv, hb, _, g⟩, _⟩ := S0
  have h1 := g _ hz
  exact ⟨_, rfl, r, C, dx, _, _, rfl, ho, R.cl, R.n5, sf_b _ _ _ _ _ _, _, rfl, b, _, rfl, by have := DGet.k (k := Sum.inr z) hb; rw [h1] at this; exact this, q⟩
def spNodesX (P : Program) (w : World) (K : PySem.W.Frag) (C CS : Addr) : Sp := fun vs H Q _ => ∃ (r dx : Addr) (v : V) (fs : List Fn) (d : Lz.P) (S : List Addr), vs = [.ref r, v] ∧ H r = some (.ins C dx []) ∧ Dp K H v (progD fs d) ∧ Prog fs d ∧ (∀ x, x ∈ S → x ≠ r ∧ ∃ o, H x = some o) ∧ ∀ (sp tl D : Addr) H', Kr r H H' → H tl = none → H D = none → NdAt P w C H' r sp tl D [] [] → SpP K CS (r :: D :: tl :: S) H' sp (fnsOf fs d) → Q .non H'
theorem pr_fz (fs : List Fn) (d : Lz.P) : fz (progD fs d) = true := by
  have h : fzAll (fs.map fD) = true := fzAll_iff.mpr fun e m => by
    obtain ⟨g, _, rfl⟩ := List.mem_map.mp m
    have h2 : fzAll (g.2.1.map PyData.str) = true := fzAll_iff.mpr fun e m => by
      obtain ⟨x, _, rfl⟩ := List.mem_map.mp m
      rfl
    show (true && (fzAll (g.2.1.map PyData.str) && (fz g.2.2.data && true))) = true
    rw [h2, data_fz]
    rfl
  show (fzAll (fs.map fD) && (fz d.data && true)) = true
  rw [h, data_fz]
  rfl
theorem nf_new (sp tl D : Addr) : putF "_numbers" (.ref D) (putF "_told" (.ref tl) (putF "spots" (.ref sp) [])) = nf sp tl D := by
  have ne : ∀ {x y : Str} {v : V} {l : List (Str × V)} {u : V}, ¬ y = x → putF x v ((y, u) :: l) = (y, u) :: putF x v l := fun {x y v l u} h => by
    show (if y = x then _ else _) = _
    rw [if_neg h]
  have nil : ∀ {x : Str} {v : V}, putF x v [] = [(x, v)] := rfl
  unfold nf
  rw [nil, ne (by decide +kernel), nil, ne (by decide +kernel), ne (by decide +kernel), nil]
abbrev sNInit : Stmt := inClass (topS 13) 0
theorem scNInit : FnScope ["self", "program"] ["self", "program"] (defScope sNInit) := ⟨rfl, rfl, rfl, by decide +kernel, rfl, by decide +kernel, by decide +kernel⟩
theorem ok_nodesX {j : Nat} (F : Fun K "__init__" "Nodes.__init__" sNInit f fd) (R : NC K C) (CSpotsMake : C8.Mak P w K mg base j "Spots" CS (spSpotsX K CS) []) : FnOk P w K mg base CX0 (j + 2) f fd ["self", "program"] (spNodesX P w K C CS) := by
  refine F.ok scNInit (fun vs H Q E h => ?_) (fun cdv A outer s H vs Q E hr h => ?_)
  · obtain ⟨r, dx, v, fs, d, S, rfl, _⟩ := h
    rfl
  obtain ⟨r, dx, v, fs, d, S, rfl, ho, hd, hprog, hSx, q⟩ := h
  refine ⟨_, (pss_cons (ps_fld (pv 0) (C8.pe_mk CSpotsMake hr (by first | decide | omega) (by rfl) (pa_cons (pv 1) pa_nil)) rfl)
    (pss_cons (ps_fld (pv 0) (pe_lst pa_nil) rfl)
    (pss_one (ps_fld (pv 0) NKd.pe_newN rfl)))), ?_⟩
  refine ⟨_, rfl, fun sp dx2 h1 h2 hne => ?_⟩
  have k1 : Kr r H (upd (upd H dx2 (.own sp)) sp (.ins CS dx2 [])) := (Kr.new h2).mut h1
  have k1p : Kp [] H (upd (upd H dx2 (.own sp)) sp (.ins CS dx2 [])) := (Kp.new (S := []) h2).mut h1
  refine ⟨sp, dx2, v, fs, d, r :: S, rfl, upd_same, ?_, hprog, fun x mx => ?_, fun p0 i0 m0 n0 b0 w0 H2 k2 S2 => ⟨rfl, ?_⟩⟩
  · exact Dp.keep k1p _ _ (pr_fz _ _) hd
  · have hx : ∃ o, H x = some o := by
      rcases List.mem_cons.mp mx with rfl | mx
      · exact ⟨_, ho⟩
      · exact (hSx x mx).2
    obtain ⟨o, e⟩ := hx
    exact ⟨ne_of_none e h1, o, k1p _ _ e (fun m => nomatch m)⟩
  have P2 : SpP K CS (r :: S) H2 sp (fnsOf fs d) := ⟨_, _, _, _, _, _, S2⟩
  have ho2 : H2 r = some (.ins C dx []) := k2 _ _ (by rw [upd_ne (ne_of_none ho h1), upd_ne (ne_of_none ho h2)]; exact ho) (ne_of_none ho h1)
  have kz2 : Kr r H H2 := fun b o e n => k2 b o (k1 b o e n) (ne_of_none e h1)
  have krs : ∀ {G : Hp} {fs : List (Str × V)} (o : HO), G r = some (.ins C dx fs) → Ks [r] G (upd G r o) ∧ NoT [r] G := fun {G fs} o e => ⟨Ks.at (by simp), fun x mx o2 e2 => by
    rw [List.mem_singleton.mp mx, e] at e2
    cases e2
    exact ⟨fun _ z => (nomatch z), fun _ _ z => (nomatch z)⟩⟩
  refine ⟨_, rfl, r, C, dx, _, rfl, ho2, R.cl, R.n1, (by show 0 < 1000; decide), ?_⟩
  have ho3 : (upd H2 r (.ins C dx (putF "spots" (.ref sp) []))) r = some (.ins C dx (putF "spots" (.ref sp) [])) := upd_same
  have kz3 : Kr r H (upd H2 r (.ins C dx (putF "spots" (.ref sp) []))) := kz2.trans (Kr.at r _ _)
  have P3 := P2.keepU (krs (.ins C dx (putF "spots" (.ref sp) [])) ho2).1 (fun x m => by rw [List.mem_singleton.mp m]; exact List.mem_cons_self) (krs (.ins C dx (putF "spots" (.ref sp) [])) ho2).2
  generalize upd H2 r (.ins C dx (putF "spots" (.ref sp) [])) = H3 at ho3 kz3 P3 ⊢
  refine ⟨Nat.zero_le _, fun tl htl => ?_⟩
  have ntr : tl ≠ r := (ne_of_none ho3 htl).symm
  have ztl : H tl = none := kz3.free htl ntr
  have P3 := P3.moreS htl
  have l1 : (putF "spots" (.ref sp) []).length ≤ 1 := by have := length_putF "spots" (.ref sp) []; omega
  refine ⟨_, rfl, r, C, dx, _, rfl, (by rw [upd_ne ntr.symm]; exact ho3), R.cl, R.n2, (by omega), ?_⟩
  have kz4 : Kr r H (upd (upd H3 tl (.lst [])) r (.ins C dx (putF "_told" (.ref tl) (putF "spots" (.ref sp) [])))) := (kz3.trans (Kr.new htl)).trans (Kr.at r _ _)
  have ho4 : (upd (upd H3 tl (.lst [])) r (.ins C dx (putF "_told" (.ref tl) (putF "spots" (.ref sp) [])))) r = some (.ins C dx (putF "_told" (.ref tl) (putF "spots" (.ref sp) []))) := upd_same
  have ht4 : (upd (upd H3 tl (.lst [])) r (.ins C dx (putF "_told" (.ref tl) (putF "spots" (.ref sp) [])))) tl = some (.lst []) := by rw [upd_ne ntr, upd_same]
  have l2 : (putF "_told" (.ref tl) (putF "spots" (.ref sp) [])).length ≤ 2 := by have := length_putF "_told" (.ref tl) (putF "spots" (.ref sp) []); omega
  have ho3' : (upd H3 tl (.lst [])) r = some (.ins C dx (putF "spots" (.ref sp) [])) := by rw [upd_ne ntr.symm]; exact ho3
  have P4 := (P3.keep (Kp.new (S := []) (o := .lst []) htl)).keepU (krs (.ins C dx (putF "_told" (.ref tl) (putF "spots" (.ref sp) []))) ho3').1 (fun x m => by rw [List.mem_singleton.mp m]; simp) (krs (.ins C dx (putF "_told" (.ref tl) (putF "spots" (.ref sp) []))) ho3').2
  generalize upd (upd H3 tl (.lst [])) r (.ins C dx (putF "_told" (.ref tl) (putF "spots" (.ref sp) []))) = H4 at ho4 ht4 kz4 P4 ⊢
  refine fun D hD => ?_
  have nDr : D ≠ r := (ne_of_none ho4 hD).symm
  have nDt : tl ≠ D := ne_of_none ht4 hD
  have zD : H D = none := kz4.free hD nDr
  have P4 := P4.moreS hD
  refine ⟨_, rfl, r, C, dx, _, rfl, (by rw [upd_ne nDr.symm]; exact ho4), R.cl, R.n3, (by omega), ?_⟩
  rw [nf_new]
  have ho4' : (upd H4 D (tbl P w D [])) r = some (.ins C dx (putF "_told" (.ref tl) (putF "spots" (.ref sp) []))) := by rw [upd_ne nDr.symm]; exact ho4
  have P5 := (P4.keep (Kp.new (S := []) (o := tbl P w D []) hD)).keepU (krs (.ins C dx (nf sp tl D)) ho4').1 (fun x m => by rw [List.mem_singleton.mp m]; simp) (krs (.ins C dx (nf sp tl D)) ho4').2
  refine q sp tl D _ ((kz4.trans (Kr.new hD)).trans (Kr.at r _ _)) ztl zD ⟨⟨dx, upd_same⟩, by rw [upd_ne ntr, upd_ne nDt]; exact ht4, rfl, (fun j a x h1 _ => by cases h1), by rw [upd_ne nDr, upd_same]; rfl, .nil⟩ (P5.lessS fun x mx => ?_)
  simp only [List.mem_cons] at mx ⊢
  rcases mx with e | e | e | e
  · exact .inr (.inr (.inl e))
  · exact .inl e
  · exact .inr (.inl e)
  · exact .inr (.inr (.inr e))
/-- what is seen at a place: the nodes then, the number -/
def seenR (v : Option Nv) (x : Nd) (xs : List Nd) : List Nd × Int := match v with
  | none => (addN xs x, ((addN xs x).idxOf x : Nat))
  | some v => if v.1 = "thing" then (xs, (x.2[v.2.toNat]?).getD 0) else (addN xs (v.2, x.2), ((addN xs (v.2, x.2)).idxOf (v.2, x.2) : Nat))
def spSeen (P : Program) (w : World) (K : PySem.W.Frag) (C CS : Addr) : Sp := fun vs H Q _ => ∃ (r sp tl D th : Addr) (S : List Addr) (gs : List Fn) (xs : List Nd) (as : List Addr) (j : Nat) (l : List Int) (gr : Gr) (k : Nat), vs = [.ref r, .int (j : Nat), .ref th] ∧ NdAt P w C H r sp tl D xs as ∧ SpP K CS S H sp gs ∧ H th = some (.tup (l.map V.int)) ∧ xs.length ≤ 900 ∧ (allG 0 gs)[j]? = some gr ∧ Pl gr k ∧ l.length = k ∧
  ∀ (as' : List Addr) (H' : Hp), Ks [tl, D] H H' → NdAt P w C H' r sp tl D (seenR gr.2.2 ((j : Int), l) xs).1 as' → Q (.int (seenR gr.2.2 ((j : Int), l) xs).2) H'
theorem nf_s (sp tl D : Addr) : (nf sp tl D).lookup ("spots" : Str) = some (.ref sp) := by
  unfold nf
  rw [look_cons, if_pos rfl]
abbrev sNSeen : Stmt := inClass (topS 13) 2
theorem scNSeen : FnScope ["self", "place", "things", "kind", "where"] ["self", "place", "things"] (defScope sNSeen) := ⟨rfl, rfl, rfl, by decide +kernel, rfl, by decide +kernel, by decide +kernel⟩
theorem ok_seen (F : Fun K "seen" "Nodes.seen" sNSeen f fd) (R : NC K C) (CSPart : C8.Met P w K mg base 1 CS "part" (spPartS K CS) []) (CSNamed : C8.Met P w K mg base 1 CS "named" (spNamedS K CS) []) (CNNode : C8.Met P w K mg base 1 C "node" (spNode P w C) []) : FnOk P w K mg base CX0 2 f fd ["self", "place", "things"] (spSeen P w K C CS) := by
  refine F.ok scNSeen (fun vs H Q E h => ?_) (fun cdv A outer s H vs Q E hr h => ?_)
  · obtain ⟨r, sp, tl, D, th, S, gs, xs, as, j, l, gr, k, rfl, _⟩ := h
    rfl
  obtain ⟨r, sp, tl, D, th, S, gs, xs, as, j, l, gr, k, rfl, N, SP, hth, hl9, hgr, hPl, hlk, q⟩ := h
  refine ⟨_, (pss_cons (ps_if (pt_cmpR op_ne (pe_ix (ix_tupK (K := K) rfl) (C8.pe_mt CSPart hr (by first | decide | omega) (pe_fld (pv 0) rfl) (pa_cons (pv 1) pa_nil)) pe_int (fun _ _ => rfl)) pe_str (nomark _)) (pss_one (ps_ret (C8.pe_mt CNNode hr (by first | decide | omega) (pv 0) (pa_cons (pv 1) (pa_cons (pv 2) pa_nil))))) pss_nil)
    (pss_cons (ps_asg (C8.pe_mt CSNamed hr (by first | decide | omega) (pe_fld (pv 0) rfl) (pa_cons (pv 1) pa_nil)) (pg_tupK (K := K) (n := 2) rfl rfl (pgs_cons (pg_name (i := 3) scNSeen.nd rfl (.inl rfl)) (pgs_cons (pg_name (i := 4) scNSeen.nd rfl (.inl rfl)) pgs_nil))))
    (pss_one (ps_ret (pe_ifExp (pt_cmpR op_eq (pv 3) pe_str (nomark _)) (pe_ix (ix_tupK (K := K) rfl) (pv 2) (pv 4) (fun _ _ => rfl)) (C8.pe_mt CNNode hr (by first | decide | omega) (pv 0) (pa_cons (pv 4) (pa_cons (pv 2) pa_nil)))))))), ?_⟩
  obtain ⟨dx, ho⟩ := N.ob
  obtain ⟨p, i, m, n, b, w, SE⟩ := id SP
  obtain ⟨⟨dxs, hos⟩, _⟩ := id SE
  have hps : (allPs 0 gs)[j]? = some (gr.1, gr.2.1) := by rw [← allG_ps, List.getElem?_map, hgr]; rfl
  have sno : ∀ {x : Str}, ¬ x = "_parts" → ¬ x = "_inner" → ¬ x = "_many_names" → ¬ x = "_named" → ¬ x = "_bodies" → ¬ x = "_wanted" → (sf p i m n b w).lookup x = none := sf_no _ _ _ _ _ _
  refine ⟨_, rfl, r, C, dx, _, _, rfl, ho, R.cl, R.n1, nf_s _ _ _, sp, dxs, _, rfl, hos, sno (by decide +kernel) (by decide +kernel) (by decide +kernel) (by decide +kernel) (by decide +kernel) (by decide +kernel), _, rfl, ?_⟩
  refine ⟨sp, p, i, m, n, b, w, S, _, _, _, _, j, _, rfl, SE, hps, fun v hv => ?_⟩
  obtain ⟨av, us, rfl, hav, _⟩ := hd_at hv
  refine ⟨av, _, _, _, rfl, rfl, hav, at_of (j := 0) rfl rfl, rfl, _, rfl, ?_⟩
  rcases hPl with ⟨hnone, hh⟩ | ⟨v, hsome, hh, hv2⟩
  · refine ite2 (fun _ => ?_) (fun c => ?_)
    · refine ⟨_, rfl, r, dx, _, rfl, ho, nf_no _ _ _ (by decide +kernel) (by decide +kernel) (by decide +kernel), _, rfl, _, rfl, ?_⟩
      refine ⟨r, sp, tl, D, th, xs, as, ((j : Int), l), rfl, N, hth, hl9, fun as' H' k' N' => ?_⟩
      have e : seenR gr.2.2 ((j : Int), l) xs = (addN xs ((j : Int), l), (((addN xs ((j : Int), l)).idxOf ((j : Int), l) : Nat) : Int)) := by rw [hnone]; rfl
      have := q as' H' k' (by rw [e]; exact N')
      rw [e] at this
      exact this
    · exact absurd c (by rw [decide_eq_false (fun e => hh (V.str.inj e))]; decide)
  · refine ite2 (fun c => ?_) (fun _ => ?_)
    · exact absurd c (by rw [decide_eq_true (congrArg V.str hh)]; decide)
    have hgr2 : (allG 0 gs)[j]? = some (gr.1, gr.2.1, some v) := by rw [hgr, ← hsome]
    have hmem := allG_nm 0 gs j _ _ _ hgr2
    rw [Int.zero_add] at hmem
    refine ⟨_, rfl, r, C, dx, _, _, rfl, ho, R.cl, R.n1, nf_s _ _ _, sp, dxs, _, rfl, hos, sno (by decide +kernel) (by decide +kernel) (by decide +kernel) (by decide +kernel) (by decide +kernel) (by decide +kernel), _, rfl, ?_⟩
    refine ⟨sp, p, i, m, n, b, w, S, _, _, _, _, (j : Int), v, rfl, SE, hmem, fun a ha => ?_⟩
    refine ⟨a, _, rfl, ha, rfl, _, _, rfl, _, _, rfl, rfl, ?_⟩
    refine ⟨_, rfl, rfl, _, rfl, ?_⟩
    rcases hv2 with ⟨h1, h2, h3⟩ | h1
    · refine ite2 (fun _ => ?_) (fun c => ?_)
      · have e : seenR gr.2.2 ((j : Int), l) xs = (xs, (l[v.2.toNat]?).getD 0) := by
          rw [hsome]
          show (if v.1 = "thing" then _ else _) = _
          rw [if_pos h1]
        have hn : v.2.toNat < l.length := by omega
        have hg := List.getElem?_eq_getElem hn
        have := q as H (Ks.refl _ _) (by rw [e]; exact N)
        rw [e, hg] at this
        refine ⟨_, rfl, _, rfl, th, _, _, _, rfl, rfl, SqT.of hth, at_of (j := v.2.toNat) (by omega) (by rw [List.getElem?_map, hg]; rfl), this⟩
      · exact absurd (by rw [decide_eq_true (congrArg V.str h1)]) c
    · refine ite2 (fun c => ?_) (fun _ => ?_)
      · exact absurd c (by rw [decide_eq_false (fun e => by rw [h1] at e; exact absurd (V.str.inj e) (by decide +kernel))]; decide)
      · have ntg : ¬ v.1 = "thing" := by rw [h1]; decide +kernel
        have e : seenR gr.2.2 ((j : Int), l) xs = (addN xs (v.2, l), (((addN xs (v.2, l)).idxOf (v.2, l) : Nat) : Int)) := by
          rw [hsome]
          show (if v.1 = "thing" then _ else _) = _
          rw [if_neg ntg]
        refine ⟨_, rfl, r, dx, _, rfl, ho, nf_no _ _ _ (by decide +kernel) (by decide +kernel) (by decide +kernel), _, rfl, _, rfl, ?_⟩
        refine ⟨r, sp, tl, D, th, xs, as, (v.2, l), rfl, N, hth, hl9, fun as' H' k' N' => ?_⟩
        have := q as' H' k' (by rw [e]; exact N')
        rw [e] at this
        exact this
end
end Lz

set_option Elab.async false
set_option linter.all false
set_option maxRecDepth 100000
set_option maxHeartbeats 8000000
namespace Lz
open PySem PySem.Spec PyProof.Rows L2 NKd
section
variable {P : Program} {w : World} {K : PySem.W.Frag} {mg : Str → Option Value} {base : Heap} {f C CS : Addr} {fd : FuncData}
abbrev sLMany : Stmt := topS 29
theorem scLMany : FnScope ["_law_part_here", "_law_one"] ["_law_part_here"] (defScope sLMany) := ⟨rfl, rfl, rfl, by decide +kernel, rfl, by decide +kernel, by decide +kernel⟩
theorem ok_lmany {n j : Nat} (hj : 1 ≤ j) (F : Fun K "_law_many" "_law_many" sLMany f fd) (B : Bt mg) (CLInner : C8.Cal P w K mg base 1 "_law_inner" (spInn K) []) (CLMany : C8.Cal P w K mg base j "_law_many" (spMany K n) []) : FnOk P w K mg base CX0 (j + 1) f fd ["_law_part_here"] (spMany K (n + 1)) := by
  have msum := B.sum
  refine F.ok scLMany (fun vs H Q E h => ?_) (fun cdv A outer s H vs Q E hr h => ?_)
  · obtain ⟨v, t, rfl, _⟩ := h
    rfl
  obtain ⟨v, t, rfl, hd, hok, hmany, hdeep, q⟩ := h
  refine ⟨_, (pss_one (ps_ret (pe_op op_add pe_int (pe_callB (call_sumK (K := K) rfl rfl) (by rfl) msum (by decide +kernel) (pa_cons (pe_lc (own := [("_law_one", 1)]) rfl scLMany.nd (pi_listK (K := K) rfl (C8.pe_c CLInner hr (by first | decide | omega) (by rfl) (pa_cons (pv 0) pa_nil))) (blkOk_by (N := ["_law_part_here", "_law_one"]) (sc := defScope sLMany) (by decide +kernel)) (fun _ _ _ _ _ => (pg_name (i := 1) scLMany.nd rfl (.inl rfl))) (fun _ _ _ _ _ => pts_nil) (fun _ _ _ _ _ => (C8.pe_c CLMany hr (by first | decide | omega) (by rfl) (pa_cons (pv 1) pa_nil)))) pa_nil))))), ?_⟩
  refine ⟨_, rfl, v, t, rfl, hd, hok, hmany, fun l xs H1 k1 hl0 hl1 hdx => ?_⟩
  have hxl : xs.length = t.inn.length := by rw [hdx.length, datas_len]
  have hil := inn_len hmany
  refine ⟨l, rfl, ⟨_, SqL.of hl1⟩, fun D hD => ?_⟩
  have nl : l ≠ D := ne_of_none hl1 hD
  refine lc_list (K := K) (a := l) (xs := xs) (fun i H' => Kp [] H1 H' ∧ H' D = some (.lst (((t.inn.take i).map (fun t => (t.many : Int))).map V.int)))
    ⟨Kp.new hD, upd_same⟩ (fun i H' _ ⟨k, _⟩ => SqL.of (k.lst hl1 (fun m => nomatch m))) ?_ ?_
  · rintro i x H2 hi ⟨k2, h2⟩
    obtain ⟨d, had, hdd⟩ := at_inn (Dp.keepAll k2 _ _ (datas_fz _) hdx) hi
    obtain ⟨dok, dm, ddp⟩ := inn_fits hok hmany hdeep had
    refine ⟨rfl, ?_⟩
    refine ⟨_, rfl, x, d, rfl, hdd, dok, dm, ddp, fun H3 k3 => ?_⟩
    have h3 := k3.lst h2 (fun m => nomatch m)
    refine ⟨_, h3, ?_, (k2.trans k3).mut hD, ?_⟩
    · rw [List.length_map, List.length_map, List.length_take]
      exact small1000 (by omega)
    · rw [upd_same, List.take_add_one, had, List.map_append, List.map_append]
      rfl
  · rintro H2 ⟨k2, h2⟩
    rw [hxl, List.take_length] at h2
    refine ⟨D, _, rfl, SqL.of h2, _, _, rfl, rfl, ?_⟩
    show Q (V.int (1 + (t.inn.map (fun t => (t.many : Int))).sum)) H2
    have e : 1 + (t.inn.map (fun t => (t.many : Int))).sum = ((t.many : Nat) : Int) := by
      rw [manys_sum, many_inn t]
      omega
    rw [e]
    exact q H2 (k1.trans k2)
end
theorem rep_one (v : V) : ∀ k : Nat, (List.replicate k [v]).flatten = List.replicate k v
  | 0 => rfl
  | k + 1 => by
    rw [List.replicate_succ, List.flatten_cons, rep_one v k, List.replicate_succ]
    rfl
def intsV (l : List Nat) : List V := l.map fun n => .int (n : Nat)
theorem szF_take (gs : List Fn) (c : Nat) (g : Fn) (h : gs[c]? = some g) : intsV (szF (gs.take (c + 1))) = intsV (szF (gs.take c)) ++ List.replicate g.2.2.many (.int (g.2.1.length : Nat)) := by
  unfold szF intsV
  rw [List.take_add_one, h, List.flatMap_append, List.map_append]
  congr 1
  show (List.replicate g.2.2.many g.2.1.length ++ []).map _ = _
  rw [List.append_nil, List.map_replicate]
theorem szF_leN (gs : List Fn) (h : ∀ g, g ∈ gs → g.2.2.many ≤ 60) : (szF gs).length ≤ 60 * gs.length := by
  unfold szF
  induction gs with
  | nil => exact Nat.le_refl _
  | cons g gs ih =>
    rw [List.flatMap_cons, List.length_append, List.length_replicate, List.length_cons]
    have h1 := h g List.mem_cons_self
    have h2 := ih fun x m => h x (List.mem_cons_of_mem _ m)
    omega
theorem catA_any {K : PySem.W.Frag} {H : Hp} {a b : Addr} {xs ys : List V} {Q : VK} (h1 : SqT K H a xs) (h2 : SqT K H b ys) (hz : xs.length + ys.length ≤ sizeLine) (q : ∀ p H', Kp [] H H' → SqT K H' p (xs ++ ys) → Q (.ref p) H') : rCatA K (.ref a) (.ref b) H Q :=
  ⟨a, b, xs, ys, rfl, rfl, h1, h2, hz, fun e => q b H (Kp.refl _ _) (by subst e; exact h2), fun _ e => q a H (Kp.refl _ _) (by subst e; rw [List.append_nil]; exact h1), fun _ _ p hp => q p _ (Kp.new hp) (SqT.of upd_same)⟩
def spRows15 (K : PySem.W.Frag) : Sp := fun vs H Q _ => ∃ (v : V) (fs : List Fn) (d : Lz.P), vs = [v] ∧ Dp K H v (progD fs d) ∧ Prog fs d ∧ ∀ (l : Addr) (H' : Hp), Kp [] H H' → H l = none → H' l = some (.lst (intsV (szF (fnsOf fs d)))) → Q (.ref l) H'
section
variable {P : Program} {w : World} {K : PySem.W.Frag} {mg : Str → Option Value} {base : Heap} {f : Addr} {fd : FuncData}
abbrev sLRows : Stmt := topS 33
theorem scLRows : FnScope ["_law_program_here", "_law_found", "_law_name", "_law_names_here", "_law_body_here"] ["_law_program_here"] (defScope sLRows) := ⟨rfl, rfl, rfl, by decide +kernel, rfl, by decide +kernel, by decide +kernel⟩
theorem ok_lrows {j : Nat} (F : Fun K "_law_rows" "_law_rows" sLRows f fd) (B : Bt mg) (CLMany : C8.Cal P w K mg base j "_law_many" (spMany K 12) []) : FnOk P w K mg base CX0 (j + 1) f fd ["_law_program_here"] (spRows15 K) := by
  have ml := B.len
  refine F.ok scLRows (fun vs H Q E h => ?_) (fun cdv A outer s H vs Q E hr h => ?_)
  · obtain ⟨v, fs, d, rfl, _⟩ := h
    rfl
  obtain ⟨v, fs, d, rfl, hd, hprog, q⟩ := h
  refine ⟨_, (pss_cons (ps_set (i := 1) scLRows.nd rfl (.inl rfl) (pe_lst pa_nil))
    (pss_cons (ps_for PassesOwn.never rfl (pi_tupK (K := K) rfl (pe_op (op_catAK (K := K) rfl) (pe_ix (ix_tupK (K := K) rfl) (pv 0) pe_int (fun _ _ => rfl)) (pe_tup (pa_cons (pe_tup (pa_cons pe_str (pa_cons (pe_tup pa_nil) (pa_cons (pe_ix (ix_tupK (K := K) rfl) (pv 0) pe_int (fun _ _ => rfl)) pa_nil)))) pa_nil)))) (pg_tupK (K := K) (n := 3) rfl rfl (pgs_cons (pg_name (i := 2) scLRows.nd rfl (.inl rfl)) (pgs_cons (pg_name (i := 3) scLRows.nd rfl (.inl rfl)) (pgs_cons (pg_name (i := 4) scLRows.nd rfl (.inl rfl)) pgs_nil)))) (pss_one (ps_set (i := 1) scLRows.nd rfl (.inl rfl) (pe_op op_cat (pv 1) (pe_op op_rep (pe_lst (pa_cons (pe_callB (call_lenK (K := K) rfl) (by rfl) ml PySem.boot_len (pa_cons (pv 3) pa_nil)) pa_nil)) (C8.pe_c CLMany hr (by first | decide | omega) (by rfl) (pa_cons (pv 4) pa_nil)))))))
    (pss_one (ps_ret (pv 1))))), ?_⟩
  obtain ⟨pr, xs, rfl, hpr, hxs⟩ := Dp.tup_of (ds := [.tuple (fs.map fD), d.data]) hd
  obtain ⟨ft, rs, vd, rfl, hft, hrs, hvd⟩ : ∃ ft rs vd, xs = [.ref ft, vd] ∧ SqT K H ft rs ∧ DpAll K H rs (fs.map fD) ∧ Dp K H vd d.data := by
    cases hxs with
    | cons h1 h2 =>
      obtain ⟨ft, rs, rfl, hft, hrs⟩ := h1.tup_of
      cases h2 with
      | cons h3 h4 =>
        cases h4
        exact ⟨ft, rs, _, rfl, hft, hrs, h3⟩
  have hrl : rs.length = fs.length := by rw [hrs.length, List.length_map]
  have hfit := hprog.fits
  have h8 := hfit.len
  refine ⟨Nat.zero_le _, fun l0 hl0 => ?_⟩
  have k0 : Kp [] H (upd H l0 (.lst [])) := Kp.new hl0
  have hl1 : (upd H l0 (.lst [])) l0 = some (.lst []) := upd_same
  generalize upd H l0 (.lst []) = H1 at k0 hl1 ⊢
  refine ⟨_, rfl, pr, _, _, _, rfl, rfl, k0.sqT hpr, at_of (j := 0) rfl rfl, ?_⟩
  refine ⟨Nat.zero_le _, fun e he => ?_⟩
  have ke : Kp [] H1 (upd H1 e (.tup [])) := Kp.new he
  have he2 : (upd H1 e (.tup [])) e = some (.tup []) := upd_same
  generalize upd H1 e (.tup []) = H2 at ke he2 ⊢
  have k2 := k0.trans ke
  have hl2 := ke _ _ hl1 (fun m => nomatch m)
  refine ⟨_, rfl, pr, _, _, _, rfl, rfl, k2.sqT hpr, at_of (j := 1) rfl rfl, ?_⟩
  refine ⟨by show 3 ≤ sizeLine; decide, fun t ht => ?_⟩
  have kt : Kp [] H2 (upd H2 t (.tup [.str "", .ref e, vd])) := Kp.new ht
  have ht2 : (upd H2 t (.tup [.str "", .ref e, vd])) t = some (.tup [.str "", .ref e, vd]) := upd_same
  generalize upd H2 t (.tup [.str "", .ref e, vd]) = H3 at kt ht2 ⊢
  have he3 := kt _ _ he2 (fun m => nomatch m)
  have hl3 := kt _ _ hl2 (fun m => nomatch m)
  have k3 := k2.trans kt
  have hlast : Dp K H3 (.ref t) (fD (askedFn d)) := .tup (.inl (.inl ht2)) (.cons (.str _) (.cons (.tup (.inl (.inl he3)) .nil) (.cons (Dp.keep k3 _ _ (data_fz _) hvd) .nil)))
  have hdx := (Dp.keepAll k3 _ _ (fdU_fz _) hrs).append (.one hlast)
  refine ⟨by show 1 ≤ sizeLine; decide, fun o ho => ?_⟩
  have ko : Kp [] H3 (upd H3 o (.tup [.ref t])) := Kp.new ho
  have ho2 : (upd H3 o (.tup [.ref t])) o = some (.tup [.ref t]) := upd_same
  generalize upd H3 o (.tup [.ref t]) = H4 at ko ho2 ⊢
  have k4 := k3.trans ko
  have hl4 := ko _ _ hl3 (fun m => nomatch m)
  have ee : (fnsOf fs d).map fD = fs.map fD ++ [fD (askedFn d)] := by
    show (fs ++ [askedFn d]).map fD = _
    rw [List.map_append]
    rfl
  rw [← ee] at hdx
  have hdx4 := Dp.keepAll ko _ _ (fdU_fz _) hdx
  refine catA_any (k4.sqT hft) (SqT.of ho2) (by rw [hrl]; exact Nat.le_of_lt (small1000 (by show fs.length + 1 ≤ 1000; omega))) fun T H5 k5 hT => ?_
  have hl5 := k5 _ _ hl4 (fun m => nomatch m)
  have hdx5 := Dp.keepAll k5 _ _ (fdU_fz _) hdx4
  have hlen : (rs ++ [V.ref t]).length = (fnsOf fs d).length := by rw [hdx.length, List.length_map]
  have hfl : (fnsOf fs d).length ≤ 9 := by
    rw [← hlen, List.length_append, hrl]
    show fs.length + 1 ≤ 9
    omega
  refine ⟨T, rfl, ⟨_, hT⟩, for_tup (K := K) (a := T) (xs := rs ++ [.ref t]) (fun c σ H' => ∃ (v2 v3 v4 : Option V) (l : Addr), σ = [some (.ref pr), some (.ref l), v2, v3, v4] ∧ Kp [] H H' ∧ SqT K H' T (rs ++ [.ref t]) ∧ DpAll K H' (rs ++ [.ref t]) ((fnsOf fs d).map fD) ∧ H l = none ∧ H' l = some (.lst (intsV (szF ((fnsOf fs d).take c)))))
    ⟨none, none, none, l0, rfl, k4.trans k5, hT, hdx5, hl0, hl5⟩ (fun c σ H' _ ⟨_, _, _, _, _, _, g, _⟩ => g) ?_ ?_⟩
  · rintro c x σ H6 hc ⟨v2, v3, v4, l, rfl, k6, hT6, hx6, zl, hl6⟩
    have hcl := (List.getElem?_eq_some_iff.mp hc).1
    obtain ⟨g, t1, r0, u, hg, rfl, ht1, hr0, hu0⟩ := fn_atU hx6 hc
    have hgm := List.mem_of_getElem? hg
    have hbd := hfit.bd g hgm
    refine ⟨t1, _, rfl, ht1, rfl, _, _, rfl, _, _, rfl, _, _, rfl, rfl, ?_⟩
    refine ⟨_, rfl, _, rfl, r0, _, rfl, .inr hr0, (by show 1 ≤ sizeLine; decide), fun p1 hp1 => ?_⟩
    rw [List.length_map]
    have k1 : Kp [] H6 (upd H6 p1 (.lst [.int (g.2.1.length : Nat)])) := Kp.new hp1
    have hp2 : (upd H6 p1 (.lst [.int (g.2.1.length : Nat)])) p1 = some (.lst [.int (g.2.1.length : Nat)]) := upd_same
    generalize upd H6 p1 (.lst [.int (g.2.1.length : Nat)]) = H7 at k1 hp2 ⊢
    refine ⟨_, rfl, u, g.2.2, rfl, Dp.keep k1 _ _ (data_fz _) hu0, hbd.ok, by have := hbd.many; omega, hbd.deep, fun H8 k8 => ?_⟩
    have hmy := hbd.many
    refine ⟨p1, _, _, rfl, rfl, k8 _ _ hp2 (fun m => nomatch m), by omega, by omega, ?_, fun p2 hp3 => ?_⟩
    · show 1 * ((g.2.2.many : Int)).toNat ≤ sizeLine
      exact Nat.le_of_lt (small1000 (by omega))
    have k9 : Kp [] H8 (upd H8 p2 (.lst (List.replicate ((g.2.2.many : Nat) : Int).toNat [V.int (g.2.1.length : Nat)]).flatten)) := Kp.new hp3
    have hp4 : (upd H8 p2 (.lst (List.replicate ((g.2.2.many : Nat) : Int).toNat [V.int (g.2.1.length : Nat)]).flatten)) p2 = some (.lst (List.replicate ((g.2.2.many : Nat) : Int).toNat [V.int (g.2.1.length : Nat)]).flatten) := upd_same
    generalize upd H8 p2 (.lst (List.replicate ((g.2.2.many : Nat) : Int).toNat [V.int (g.2.1.length : Nat)]).flatten) = H9 at k9 hp4 ⊢
    rw [rep_one, Int.toNat_natCast] at hp4
    have kk := k1.trans (k8.trans k9)
    refine ⟨l, p2, _, _, rfl, rfl, kk _ _ hl6 (fun m => nomatch m), hp4, ?_, fun p3 hp5 => ?_⟩
    · unfold intsV
      rw [List.length_map, List.length_replicate]
      have h1 := szF_leN ((fnsOf fs d).take c) (fun x m => (hfit.bd x (List.mem_of_mem_take m)).many)
      rw [List.length_take] at h1
      exact Nat.le_of_lt (small1000 (by omega))
    have k10 := kk.trans (Kp.new (S := []) (o := .lst (intsV (szF ((fnsOf fs d).take c)) ++ List.replicate g.2.2.many (V.int (g.2.1.length : Nat)))) hp5)
    have zp : H p3 = none := (k6.trans kk).free hp5 (fun m => nomatch m)
    refine ⟨_, _, _, p3, rfl, k6.trans k10, k10.sqT hT6, Dp.keepAll k10 _ _ (fdU_fz _) hx6, zp, ?_⟩
    rw [upd_same, szF_take _ _ _ hg]
  · rintro σ H6 ⟨v2, v3, v4, l, rfl, k6, hT6, hx6, zl, hl6⟩
    rw [hlen, List.take_length] at hl6
    exact ⟨_, rfl, q l H6 k6 zl hl6⟩
end
/-- a node as data -/
def ndD (x : Nd) : PyData := .tuple [.int x.1, .tuple (x.2.map .int)]
theorem ints_dp {K : PySem.W.Frag} {H : Hp} : ∀ l : List Int, DpAll K H (l.map V.int) (l.map PyData.int)
  | [] => .nil
  | x :: l => .cons (.int x) (ints_dp l)
theorem isN.dp {K : PySem.W.Frag} {H : Hp} {a : Addr} {x : Nd} (h : isN H a x) : Dp K H (.ref a) (ndD x) := by
  obtain ⟨th, h1, h2⟩ := h
  exact .tup (SqT.of h1) (.cons (.int _) (.cons (.tup (SqT.of h2) (ints_dp _)) .nil))
theorem isN.keep {H H' : Hp} {a : Addr} {x : Nd} (h : isN H a x) (k : Kp [] H H') : isN H' a x := by
  obtain ⟨th, h1, h2⟩ := h
  exact ⟨th, k _ _ h1 (fun m => nomatch m), k _ _ h2 (fun m => nomatch m)⟩
theorem ints_lay : ∀ l : List Int, PyData.canLayAll0 (l.map PyData.int) = true
  | [] => by simp [PyData.canLayAll0]
  | x :: l => by simp [PyData.canLayAll0, PyData.canLay0, ints_lay l]
theorem ints_depth : ∀ l : List Int, PyData.depthAll (l.map PyData.int) = 0
  | [] => by simp [PyData.depthAll]
  | x :: l => by simp [PyData.depthAll, PyData.depth, ints_depth l]
theorem ndD_lay (x : Nd) : (ndD x).canLay0 = true := by simp [ndD, PyData.canLay0, PyData.canLayAll0, ints_lay]
theorem ndD_depth (x : Nd) : (ndD x).depth = 2 := by simp [ndD, PyData.depth, PyData.depthAll, ints_depth]
theorem ndDs_lay : ∀ l : List Nd, PyData.canLayAll0 (l.map ndD) = true
  | [] => by simp [PyData.canLayAll0]
  | x :: l => by simp [PyData.canLayAll0, ndD_lay, ndDs_lay l]
theorem ndDs_depth : ∀ l : List Nd, PyData.depthAll (l.map ndD) ≤ 2
  | [] => by simp [PyData.depthAll]
  | x :: l => by
    simp only [List.map_cons, PyData.depthAll, ndD_depth]
    exact Nat.max_le.mpr ⟨Nat.le_refl _, ndDs_depth l⟩
theorem ndD_shaped (x : Nd) : SeqAt.shaped (ndD x) = true := by
  unfold SeqAt.shaped
  rw [ndD_depth, ndD_lay]
  rfl
theorem ndD_same (x : Nd) : PyData.eqv (ndD x) (ndD x) = true := SeqAt.eqv_refl _ (ndD_lay x)
theorem NdAt.keep {P : Program} {w : World} {C : Addr} {H H' : Hp} {r sp tl D : Addr} {xs : List Nd} {as : List Addr} (h : NdAt P w C H r sp tl D xs as) (k : Kp [] H H') : NdAt P w C H' r sp tl D xs as := by
  have go : ∀ {a o}, H a = some o → H' a = some o := fun e => k _ _ e (fun m => nomatch m)
  obtain ⟨⟨dx, h0⟩, h1, h2, h3, h4, h5⟩ := h
  exact ⟨⟨dx, go h0⟩, go h1, h2, fun j a x e1 e2 => (h3 j a x e1 e2).keep k, go h4, h5⟩
/-- the law's own row of nodes -/
structure KpAt (H : Hp) (kl : Addr) (xs : List Nd) (bs : List Addr) : Prop where
  lst : H kl = some (.lst (bs.map V.ref))
  len : bs.length = xs.length
  dt : ∀ (j : Nat) b x, bs[j]? = some b → xs[j]? = some x → isN H b x
theorem KpAt.keep {H H' : Hp} {kl : Addr} {xs : List Nd} {bs : List Addr} (h : KpAt H kl xs bs) (k : Kp [] H H') : KpAt H' kl xs bs :=
  ⟨k _ _ h.lst (fun m => nomatch m), h.len, fun j b x e1 e2 => (h.dt j b x e1 e2).keep k⟩
theorem nds_dp {K : PySem.W.Frag} {H : Hp} : ∀ {xs : List Nd} {bs : List Addr}, bs.length = xs.length → (∀ (j : Nat) b x, bs[j]? = some b → xs[j]? = some x → isN H b x) → DpAll K H (bs.map V.ref) (xs.map ndD)
  | [], [], _, _ => .nil
  | [], _ :: _, h, _ => by cases h
  | _ :: _, [], h, _ => by cases h
  | x :: xs, b :: bs, h, hd => .cons (hd 0 b x rfl rfl).dp (nds_dp (Nat.succ.inj h) fun j b x e1 e2 => hd (j + 1) b x e1 e2)
theorem KpAt.dp {K : PySem.W.Frag} {H : Hp} {kl : Addr} {xs : List Nd} {bs : List Addr} (h : KpAt H kl xs bs) : DpAll K H (bs.map V.ref) (xs.map ndD) := nds_dp h.len h.dt
theorem ints_eqv : ∀ l m : List Int, PyData.eqvAll (l.map PyData.int) (m.map PyData.int) = decide (l = m)
  | [], [] => by simp [PyData.eqvAll]
  | [], _ :: _ => by simp [PyData.eqvAll]
  | _ :: _, [] => by simp [PyData.eqvAll]
  | x :: l, y :: m => by
    simp only [List.map_cons, PyData.eqvAll, ints_eqv l m, PyData.eqv]
    rw [Bool.eq_iff_iff]
    simp
theorem ndD_eqv (x y : Nd) : PyData.eqv (ndD x) (ndD y) = decide (x = y) := by
  unfold ndD
  simp only [PyData.eqv, PyData.eqvAll, ints_eqv]
  rw [Bool.eq_iff_iff]
  simp [Prod.ext_iff]
theorem ndDs_any (xs : List Nd) (x : Nd) : ((xs.map ndD).any fun z => PyData.eqv z (ndD x)) = decide (x ∈ xs) := by
  rw [Bool.eq_iff_iff, List.any_map, List.any_eq_true]
  constructor
  · rintro ⟨y, m, e⟩
    have e : PyData.eqv (ndD y) (ndD x) = true := e
    rw [ndD_eqv] at e
    rw [← of_decide_eq_true e]
    exact decide_eq_true m
  · intro m
    refine ⟨x, of_decide_eq_true m, ?_⟩
    show PyData.eqv (ndD x) (ndD x) = true
    exact ndD_same x
theorem ndDs_idx (xs : List Nd) (x : Nd) (m : x ∈ xs) : (xs.map ndD)[xs.idxOf x]? = some (ndD x) ∧ ∀ (i : Nat) z, i < xs.idxOf x → (xs.map ndD)[i]? = some z → PyData.eqv z (ndD x) = false := by
  constructor
  · rw [List.getElem?_map, List.getElem?_eq_getElem (List.idxOf_lt_length_iff.mpr m), List.getElem_idxOf]
    rfl
  · intro i z hi hz
    rw [List.getElem?_map] at hz
    obtain ⟨y, hy, rfl⟩ := Option.map_eq_some_iff.mp hz
    rw [ndD_eqv]
    refine decide_eq_false fun e => ?_
    subst e
    have := List.not_of_lt_findIdx (p := (· == y)) (xs := xs) (i := i) hi
    obtain ⟨h1, h2⟩ := List.getElem?_eq_some_iff.mp hy
    rw [h2] at this
    simp at this
theorem ndDs_shaped (xs : List Nd) : SeqAt.shaped (.list (xs.map ndD)) = true := by
  have h := ndDs_depth xs
  unfold SeqAt.shaped
  simp only [PyData.depth, PyData.canLay0, ndDs_lay]
  simp
  omega
/-- a table of nodes is kept where only lists and dicts elsewhere change -/
theorem NdAt.keepS {P : Program} {w : World} {C : Addr} {S : List Addr} {H H' : Hp} {r sp tl D : Addr} {xs : List Nd} {as : List Addr} (h : NdAt P w C H r sp tl D xs as) (k : Ks S H H') (hr : ¬ r ∈ S) (ht : ¬ tl ∈ S) (hD : ¬ D ∈ S) (no : ∀ a ys, H a = some (.tup ys) → ¬ a ∈ S) : NdAt P w C H' r sp tl D xs as := by
  obtain ⟨⟨dx, h0⟩, h1, h2, h3, h4, h5⟩ := h
  exact ⟨⟨dx, k _ _ h0 hr⟩, k _ _ h1 ht, h2, fun j a x e1 e2 => by
    obtain ⟨th, g1, g2⟩ := h3 j a x e1 e2
    exact ⟨th, k _ _ g1 (no _ _ g1), k _ _ g2 (no _ _ g2)⟩, k _ _ h4 hD, h5⟩
theorem KpAt.keepS {S : List Addr} {H H' : Hp} {kl : Addr} {xs : List Nd} {bs : List Addr} (h : KpAt H kl xs bs) (k : Ks S H H') (hk : ¬ kl ∈ S) (no : ∀ a ys, H a = some (.tup ys) → ¬ a ∈ S) : KpAt H' kl xs bs :=
  ⟨k _ _ h.lst hk, h.len, fun j b x e1 e2 => by
    obtain ⟨th, g1, g2⟩ := h.dt j b x e1 e2
    exact ⟨th, k _ _ g1 (no _ _ g1), k _ _ g2 (no _ _ g2)⟩⟩
/-- the law's row, a node more -/
theorem KpAt.more {H : Hp} {kl b : Addr} {xs : List Nd} {x : Nd} {bs : List Addr} (h : KpAt H kl xs bs) (hb : isN H b x) : KpAt (upd H kl (.lst ((bs ++ [b]).map V.ref))) kl (xs ++ [x]) (bs ++ [b]) := by
  have kT : ∀ {a us}, H a = some (.tup us) → (upd H kl (.lst ((bs ++ [b]).map V.ref))) a = some (.tup us) := fun {a us} e => by
    rw [upd_ne (fun q => by rw [q, h.lst] at e; cases e)]
    exact e
  refine ⟨upd_same, by rw [List.length_append, List.length_append, h.len]; rfl, fun j a y h1 h2 => ?_⟩
  have hx : isN H a y := by
    by_cases hj : j < xs.length
    · rw [List.getElem?_append_left (by rw [h.len]; exact hj)] at h1
      rw [List.getElem?_append_left hj] at h2
      exact h.dt j a y h1 h2
    · have hj2 : j = xs.length := by
        have := (List.getElem?_eq_some_iff.mp h2).1
        rw [List.length_append] at this
        simp at this
        omega
      subst hj2
      rw [← h.len, List.getElem?_concat_length] at h1
      rw [List.getElem?_concat_length] at h2
      cases h1
      cases h2
      exact hb
  obtain ⟨t2, g1, g2⟩ := hx
  exact ⟨t2, kT g1, kT g2⟩
end Lz

set_option Elab.async false
set_option linter.all false
set_option maxRecDepth 100000
set_option maxHeartbeats 4000000
/-! zip of a tuple and a list. -/
namespace StZ
open PySem PySem.Spec PyProof.Rows L2 RZ
section
variable {P : Program} {w : World} {A : Around} {E : Value → Shared → Prop} {t : Shared}
/-- a tuple's and a list's turn of a zip at q, of the iterators at u and v -/
structure At (h : Heap) (q I O u v a b : Addr) (i j : Nat) (xs ys : Array Value) : Prop where
  u1 : h.IsTupleIter u a i
  v1 : h.IsListIter v b j
  a1 : h.IsTuple a xs
  b1 : h.IsList b ys
/-- what the turn leaves -/
def Kept (h g : Heap) (q O u v : Addr) : Prop := ∀ c o, c ≠ q → c ≠ O → c ≠ u → c ≠ v → h.get? c = some o → g.get? c = some o
theorem one_turn {q I O u v a b : Addr} {i j : Nat} {xs ys : Array Value} {x y m n : Value} {Q : Value → Shared → Prop} (Ap : ZipApart q I O u v a b) (zq : IsZip t.heap q I O .none) (zi : IsPair t.heap I (.ref u) (.ref v)) (zo : IsPair t.heap O m n) (S : At t.heap q I O u v a b i j xs ys) (ex : xs[i]? = some x) (ey : ys[j]? = some y)
    (k : ∀ g, IsZip g q I O (rawInt t.heap.objs.size) → IsPair g O x y → g.IsTupleIter u a (i + 1) → g.IsListIter v b (j + 1) → IsPair g t.heap.objs.size x y → g.objs.size = t.heap.objs.size + 1 → Kept t.heap g q O u v → Q (.ref t.heap.objs.size) { t with heap := g }) :
    wpAny (model P w) A (Builtin.«zip.__next__» ⟨[.ref q], []⟩) (fun f t' => ∃ r, f = .done (.ret r) ∧ Q r t') E t := by
  show wpAny _ _ (field (.ref q) 2 >>= _) _ _ _
  refine wpAny_bind (wpAny_field zq rfl (x := .bool false) rfl ?_); show wpAny _ _ (field (.ref q) 3 >>= _) _ _ _
  refine wpAny_bind (wpAny_field zq rfl (x := .ref I) rfl (wpAny_bind (wpAny_seqItems zi rfl ?_)))
  show wpAny _ _ (Builtin.SmallTypes.ownedTupleIsFree (.ref q) >>= _) _ _ _
  refine wpAny_bind ?_; unfold Builtin.SmallTypes.ownedTupleIsFree
  refine wpAny_bind (wpAny_field zq rfl (x := .none) rfl (wpAny_pure ?_)); simp only [if_true]
  refine wpAny_bind (wpAny_rule (wpAny_bind (wpAny_field zq rfl (x := .ref O) rfl ?_)))
  refine wpAny_bind (wpAny_setField_rec zq (by simp) fun g1 zq1 s1 => ?_)
  have zq1 : IsZip g1 q I O .ellipsis := zq1
  refine wpAny_bind ?_; simp only [List.zipIdx_cons, List.zipIdx_nil, List.forIn_cons, List.forIn_nil]
  -- the tuple's
  refine wpAny_bind (wpAny_bind (wpAny_onRaise ?_)); show wpAny _ _ (Builtin.SmallTypes.nextOf (.ref u) >>= _) _ _ _
  refine wpAny_bind (nextOf_tuple_item (S.u1.extBut s1.extBut Ap.i1z) (S.a1.extBut s1.extBut Ap.l1z) ex fun g2 u2 s2 => wpAny_pure ?_)
  have zo2 : IsPair g2 O m n := s2.extBut _ _ Ap.TOi1 (s1.extBut _ _ Ap.TOz zo)
  refine wpAny_bind (wpAny_seqItems zo2 rfl (wpAny_bind (wpAny_updateSeq_pair zo2 fun g3 zo3 s3 => ?_)))
  have zo3 : IsPair g3 O x n := zo3
  refine wpAny_bind (wpAny_letGo (wpAny_pure ?_))
  -- the list's
  refine wpAny_bind (wpAny_bind (wpAny_onRaise ?_)); show wpAny _ _ (Builtin.SmallTypes.nextOf (.ref v) >>= _) _ _ _
  have v3 := ((S.v1.extBut s1.extBut Ap.i2z).extBut s2.extBut Ap.i12.symm).extBut s3.extBut Ap.TOi2.symm
  have b3 := ((S.b1.extBut s1.extBut Ap.l2z).extBut s2.extBut Ap.l2i1).extBut s3.extBut Ap.l2TO
  refine wpAny_bind (wpAny_nextOf_list_item v3 b3 ey fun g4 v4 s4 => wpAny_pure ?_)
  have zo4 : IsPair g4 O x n := s4.extBut _ _ Ap.TOi2 zo3
  refine wpAny_bind (wpAny_seqItems zo4 rfl (wpAny_bind (wpAny_updateSeq_pair zo4 fun g5 zo5 s5 => ?_)))
  have zo5 : IsPair g5 O x y := zo5
  refine wpAny_bind (wpAny_letGo (wpAny_pure (wpAny_pure (wpAny_bind (wpAny_seqItems zo5 rfl (wpAny_bind (wpAny_newTuple ?_)))))))
  have big : g5.objs.size = t.heap.objs.size := by rw [s5.1, s4.1, s3.1, s2.1, s1.1]
  have zq5 : IsZip g5 q I O .ellipsis := s5.extBut _ _ Ap.TOz.symm (s4.extBut _ _ Ap.i2z.symm (s3.extBut _ _ Ap.TOz.symm (s2.extBut _ _ Ap.i1z.symm zq1)))
  have all5 : Kept t.heap g5 q O u v := fun c o n1 n2 n3 n4 e => s5.extBut _ _ n2 (s4.extBut _ _ n4 (s3.extBut _ _ n2 (s2.extBut _ _ n3 (s1.extBut _ _ n1 e))))
  have u5 := ((u2.extBut s3.extBut Ap.TOi1.symm).extBut s4.extBut Ap.i12).extBut s5.extBut Ap.TOi1.symm
  have v5 := v4.extBut s5.extBut Ap.TOi2.symm
  have ql : q < g5.objs.size := Heap.lt_size zq5
  show wpAny _ _ (Builtin.SmallTypes.ownedTupleHandOut (.ref q) (.ref g5.objs.size) >>= _) _ _ _
  refine wpAny_bind ?_; unfold Builtin.SmallTypes.ownedTupleHandOut
  have zq6 : IsZip (g5.push { cls := .type "tuple", data := .seq #[x, y] }) q I O .ellipsis := Heap.get?_push_of_some _ zq5
  refine wpAny_bind (wpAny_setField_rec zq6 (by simp) fun g7 zq7 s7 => ?_)
  have zq7 : IsZip g7 q I O (rawInt g5.objs.size) := zq7
  refine wpAny_setField_rec zq7 (by simp) fun g8 zq8 s8 => ?_
  have zq8 : IsZip g8 q I O (rawInt g5.objs.size) := zq8
  have up : ∀ c o, c ≠ q → g5.get? c = some o → g8.get? c = some o := fun c o n1 e => s8.extBut _ _ n1 (s7.extBut _ _ n1 (Heap.get?_push_of_some _ e))
  have two8 : IsPair g8 g5.objs.size x y := s8.extBut _ _ (Nat.ne_of_gt ql) (s7.extBut _ _ (Nat.ne_of_gt ql) (Heap.get?_push_size _ rfl))
  have big8 : g8.objs.size = g5.objs.size + 1 := by rw [s8.1, s7.1, Heap.size_push]
  rw [big] at zq8 two8 big8
  refine wpAny_pure ⟨_, rfl, ?_⟩
  show Q (.ref g5.objs.size) _
  rw [big]
  exact k g8 zq8 (up _ _ Ap.TOz zo5) (u5.at fun o e => up _ o Ap.i1z e) (v5.at fun o e => up _ o Ap.i2z e) two8 big8 fun c o n1 n2 n3 n4 e => up c o n1 (all5 c o n1 n2 n3 n4 e)
theorem at_end {q I O u v a b : Addr} {i j : Nat} {xs ys : Array Value} {m n : Value} {Q : Fin → Shared → Prop} (hh : A.handled = none) (Ap : ZipApart q I O u v a b) (zq : IsZip t.heap q I O .none) (zi : IsPair t.heap I (.ref u) (.ref v)) (zo : IsPair t.heap O m n) (S : At t.heap q I O u v a b i j xs ys) (over : xs[i]? = none ∨ ys[j]? = none)
    (k : ∀ g e, Kept t.heap g q O u v → (∃ o, g.get? e = some o ∧ o.cls = .type "StopIteration") → E (.ref e) { t with heap := g }) : wpAny (model P w) A (Builtin.«zip.__next__» ⟨[.ref q], []⟩) Q E t := by
  show wpAny _ _ (field (.ref q) 2 >>= _) _ _ _
  refine wpAny_bind (wpAny_field zq rfl (x := .bool false) rfl ?_); show wpAny _ _ (field (.ref q) 3 >>= _) _ _ _
  refine wpAny_bind (wpAny_field zq rfl (x := .ref I) rfl (wpAny_bind (wpAny_seqItems zi rfl ?_)))
  show wpAny _ _ (Builtin.SmallTypes.ownedTupleIsFree (.ref q) >>= _) _ _ _
  refine wpAny_bind ?_; unfold Builtin.SmallTypes.ownedTupleIsFree
  refine wpAny_bind (wpAny_field zq rfl (x := .none) rfl (wpAny_pure ?_)); simp only [if_true]
  refine wpAny_bind (wpAny_rule (wpAny_bind (wpAny_field zq rfl (x := .ref O) rfl ?_)))
  refine wpAny_bind (wpAny_setField_rec zq (by simp) fun g1 zq1 s1 => ?_)
  have zq1 : IsZip g1 q I O .ellipsis := zq1
  refine wpAny_bind ?_; simp only [List.zipIdx_cons, List.zipIdx_nil, List.forIn_cons, List.forIn_nil]
  refine wpAny_bind (wpAny_bind (wpAny_onRaise ?_)); show wpAny _ _ (Builtin.SmallTypes.nextOf (.ref u) >>= _) _ _ _
  cases ex : xs[i]? with
  | none =>
    refine wpAny_bind (nextOf_tuple_end hh (S.u1.extBut s1.extBut Ap.i1z) (S.a1.extBut s1.extBut Ap.l1z) ex fun g2 e s2 ⟨oe, oe1, oe2⟩ => ?_)
    have zq2 : IsZip g2 q I O .ellipsis := s2 _ _ Ap.i1z.symm zq1
    have ne : e ≠ q := by
      rintro rfl
      rw [zq2] at oe1
      cases oe1
      simp at oe2
    exact wpAny_setField_rec zq2 (by simp) fun g3 _ s3 => k g3 e (fun c o n1 _ n3 _ z => s3.extBut _ _ n1 (s2 _ _ n3 (s1.extBut _ _ n1 z))) ⟨oe, s3.extBut _ _ ne oe1, oe2⟩
  | some x =>
    have ey : ys[j]? = none := over.elim (fun z => by rw [ex] at z; cases z) id
    refine wpAny_bind (nextOf_tuple_item (S.u1.extBut s1.extBut Ap.i1z) (S.a1.extBut s1.extBut Ap.l1z) ex fun g2 u2 s2 => wpAny_pure ?_)
    have zo2 : IsPair g2 O m n := s2.extBut _ _ Ap.TOi1 (s1.extBut _ _ Ap.TOz zo)
    refine wpAny_bind (wpAny_seqItems zo2 rfl (wpAny_bind (wpAny_updateSeq_pair zo2 fun g3 zo3 s3 => ?_)))
    refine wpAny_bind (wpAny_letGo (wpAny_pure ?_))
    refine wpAny_bind (wpAny_bind (wpAny_onRaise ?_)); show wpAny _ _ (Builtin.SmallTypes.nextOf (.ref v) >>= _) _ _ _
    have v3 := ((S.v1.extBut s1.extBut Ap.i2z).extBut s2.extBut Ap.i12.symm).extBut s3.extBut Ap.TOi2.symm
    have b3 := ((S.b1.extBut s1.extBut Ap.l2z).extBut s2.extBut Ap.l2i1).extBut s3.extBut Ap.l2TO
    refine wpAny_bind (wpAny_nextOf_list_end hh v3 b3 ey fun g4 e s4 ⟨oe, oe1, oe2⟩ => ?_)
    have zq4 : IsZip g4 q I O .ellipsis := s4 _ _ Ap.i2z.symm (s3.extBut _ _ Ap.TOz.symm (s2.extBut _ _ Ap.i1z.symm zq1))
    have ne : e ≠ q := by
      rintro rfl
      rw [zq4] at oe1
      cases oe1
      simp at oe2
    exact wpAny_setField_rec zq4 (by simp) fun g5 _ s5 => k g5 e (fun c o n1 n2 n3 n4 z => s5.extBut _ _ n1 (s4 _ _ n4 (s3.extBut _ _ n2 (s2.extBut _ _ n3 (s1.extBut _ _ n1 z))))) ⟨oe, s5.extBut _ _ ne oe1, oe2⟩
theorem next_turn {q I O u v a b : Addr} {i j : Nat} {xs ys : Array Value} {x y m n : Value} {Q : Option Value → Shared → Prop} (Ap : ZipApart q I O u v a b) (zq : IsZip t.heap q I O .none) (zi : IsPair t.heap I (.ref u) (.ref v)) (zo : IsPair t.heap O m n) (S : At t.heap q I O u v a b i j xs ys) (ex : xs[i]? = some x) (ey : ys[j]? = some y)
    (k : ∀ g, IsZip g q I O (rawInt t.heap.objs.size) → IsPair g O x y → g.IsTupleIter u a (i + 1) → g.IsListIter v b (j + 1) → IsPair g t.heap.objs.size x y → g.objs.size = t.heap.objs.size + 1 → Kept t.heap g q O u v → Q (some (.ref t.heap.objs.size)) { t with heap := g }) : wpAny (model P w) A (pyNext (.ref q)) Q E t := by
  have ty : t.TypeIs (.ref q) "zip" := ⟨_, zq, rfl⟩
  unfold pyNext
  refine wpAny_bind (wpAny_attempt (wpAny_callSpecial?_slot (name := Str.ofString "__next__") ty F.slot_zip_next (wpAny_call_entry F.slot_zip_next ty F.entry_zip_next ?_ (F.args_zip_next_1 _))))
  exact one_turn Ap zq zi zo S ex ey fun g k1 k2 k3 k4 k5 k6 k7 => wpAny_pure (k g k1 k2 k3 k4 k5 k6 k7)
theorem next_end {q I O u v a b : Addr} {i j : Nat} {xs ys : Array Value} {m n : Value} {Q : Option Value → Shared → Prop} (hh : A.handled = none) (Ap : ZipApart q I O u v a b) (zq : IsZip t.heap q I O .none) (zi : IsPair t.heap I (.ref u) (.ref v)) (zo : IsPair t.heap O m n) (S : At t.heap q I O u v a b i j xs ys) (over : xs[i]? = none ∨ ys[j]? = none)
    (k : ∀ g, Kept t.heap g q O u v → Q none { t with heap := g }) : wpAny (model P w) A (pyNext (.ref q)) Q E t := by
  have ty : t.TypeIs (.ref q) "zip" := ⟨_, zq, rfl⟩
  unfold pyNext
  refine wpAny_bind (wpAny_attempt (wpAny_callSpecial?_slot (name := Str.ofString "__next__") ty F.slot_zip_next (wpAny_call_entry F.slot_zip_next ty F.entry_zip_next ?_ (F.args_zip_next_1 _))))
  refine at_end hh Ap zq zi zo S over fun g e kk ⟨o, o1, o2⟩ => ?_
  exact wpAny_bind (wpAny_isInstance (T := "StopIteration") (b := true) ⟨o, o1, o2⟩ isSubtype_stop (wpAny_pure (k g kk)))
end
/-! ### its making -/
abbrev m1 (h : Heap) (a : Addr) : Heap := h.push { cls := .type "tuple_iterator", data := .fields #[.ref a, .int 0 0] }
abbrev m2 (h : Heap) (a b : Addr) : Heap := (m1 h a).push { cls := .type "list_iterator", data := .fields #[.ref b, .int 0 0] }
abbrev m3 (h : Heap) (a b : Addr) : Heap := (m2 h a b).push { cls := .type "tuple", data := .seq #[.ref h.objs.size, .ref (m1 h a).objs.size] }
abbrev m4 (h : Heap) (a b : Addr) : Heap := (m3 h a b).push { cls := .type "tuple", data := .seq #[.none, .none] }
abbrev m5 (h : Heap) (a b : Addr) : Heap := (m4 h a b).push { cls := .type "zip", data := .fields #[.none, .bool false, .bool false, .ref (m2 h a b).objs.size, .ref (m3 h a b).objs.size] }
theorem made (a b : Addr) (xs ys : Array Value) : Meets (Builtin.«zip.__new__» ⟨[.type "zip", .ref a, .ref b], []⟩) (fun _ R s => s.heap.IsTuple a xs ∧ s.heap.IsList b ys ∧ R (.ok (.ret (.ref (m4 s.heap a b).objs.size))) { s with heap := m5 s.heap a b }) :=
  .of_wp fun prog w A R s h => by
    obtain ⟨hp, g, d, tk, os⟩ := s
    obtain ⟨ta, tb, r⟩ := h
    have sub := sub_zip
    have La : Heap.IsTuple (Shared.heap ⟨hp, g, d, tk, os⟩) a xs := ta
    have Lb : Heap.IsList (Shared.heap ⟨m1 hp a, g, d, tk, os⟩) b ys := Heap.IsList.push tb _
    wp_walk using wpAny_pyIter_tuple La, wpAny_pyIter_list Lb
    exact ⟨_, rfl, r⟩
theorem call_made {P : Program} {w : World} {A : Around} {E : Value → Shared → Prop} {t : Shared} {a b : Addr} {xs ys : Array Value} {Q : Value → Shared → Prop} (ta : t.heap.IsTuple a xs) (tb : t.heap.IsList b ys)
    (k : ∀ g, IsZip g (t.heap.objs.size + 4) (t.heap.objs.size + 2) (t.heap.objs.size + 3) .none → IsPair g (t.heap.objs.size + 2) (.ref t.heap.objs.size) (.ref (t.heap.objs.size + 1)) → IsPair g (t.heap.objs.size + 3) .none .none → g.IsTupleIter t.heap.objs.size a 0 → g.IsListIter (t.heap.objs.size + 1) b 0 →
      (∀ c o, t.heap.get? c = some o → g.get? c = some o) → Q (.ref (t.heap.objs.size + 4)) { t with heap := g }) : wpAny (model P w) A (call (.type "zip") [.ref a, .ref b]) Q E t := by
  refine callType_new F.called_zip (by decide) (F.typeCall_zip_2 _ _) (F.newCall_zip_2 _ _) (fun obj => F.args_object_init_3 obj _ _) F.entry_zip_new (made a b xs ys) ⟨ta, tb, ?_⟩
  have n1 : (m1 t.heap a).objs.size = t.heap.objs.size + 1 := Heap.size_push ..
  have n2 : (m2 t.heap a b).objs.size = t.heap.objs.size + 2 := by rw [Heap.size_push, n1]
  have n3 : (m3 t.heap a b).objs.size = t.heap.objs.size + 3 := by rw [Heap.size_push, n2]
  have n4 : (m4 t.heap a b).objs.size = t.heap.objs.size + 4 := by rw [Heap.size_push, n3]
  have up : ∀ {h : Heap} {c : Addr} {o o' : Obj}, h.get? c = some o → (h.push o').get? c = some o := fun e => Heap.get?_push_of_some _ e
  have e5 : (m5 t.heap a b).get? (m4 t.heap a b).objs.size = some _ := Heap.get?_push_size _ rfl
  have e4 : (m5 t.heap a b).get? (m3 t.heap a b).objs.size = some _ := up (Heap.get?_push_size _ rfl)
  have e3 : (m5 t.heap a b).get? (m2 t.heap a b).objs.size = some _ := up (up (Heap.get?_push_size _ rfl))
  have e2 : (m5 t.heap a b).get? (m1 t.heap a).objs.size = some _ := up (up (up (Heap.get?_push_size _ rfl)))
  have e1 : (m5 t.heap a b).get? t.heap.objs.size = some _ := up (up (up (up (Heap.get?_push_size _ rfl))))
  show _ ∧ _
  rw [n2, n3, n4] at e5
  rw [n1, n2] at e3
  rw [n3] at e4
  rw [n1] at e2
  rw [n4]
  exact ⟨⟨_, e5, rfl⟩, k _ e5 e3 e4 ⟨_, e1, rfl, rfl⟩ ⟨_, e2, rfl, rfl⟩ fun c o z => up (up (up (up (up z))))⟩
end StZ

set_option Elab.async false
set_option linter.all false
set_option maxRecDepth 100000
set_option maxHeartbeats 4000000
/-! The layer's rule for zip of a tuple and a list. -/
namespace StZ
open PySem PySem.Spec PyProof.Rows L2 RZ
/-- the tuple at a and the list at b, as they stand at each turn -/
def Itm (K : PySem.W.Frag) (a b : Addr) : It where
  go i H := ∃ (xs ys : List V) (x y : V), SqT K H a xs ∧ SqL K H b ys ∧ xs[i]? = some x ∧ ys[i]? = some y
  yld i H v H' := ∃ T x y, v = .ref T ∧ H T = none ∧ H' = upd H T (.tup [x, y]) ∧ (∀ xs, SqT K H a xs → xs[i]? = some x) ∧ ∀ ys, SqL K H b ys → ys[i]? = some y
  stop i H := ∃ xs ys : List V, SqT K H a xs ∧ SqL K H b ys ∧ (xs.length ≤ i ∨ ys.length ≤ i)
/-- how the five objects of a zip stand ahead of turn i -/
def Stand (a b z TI TO u v : Addr) (i : Nat) (h : Heap) : Prop := IsZip h z TI TO .none ∧ IsPair h TI (.ref u) (.ref v) ∧ (∃ x y, IsPair h TO x y) ∧ h.IsTupleIter u a i ∧ h.IsListIter v b i
theorem five {c z TI TO u v : Addr} (h : c ∈ [z, TI, TO, u, v]) : c = z ∨ c = TI ∨ c = TO ∨ c = u ∨ c = v := by simpa using h
theorem stand_some {a b z TI TO u v c : Addr} {i : Nat} {h : Heap} (s : Stand a b z TI TO u v i h) (hc : c ∈ [z, TI, TO, u, v]) : ∃ o, h.get? c = some o ∧ ∀ w, o.data ≠ .cell w := by
  obtain ⟨hz, hi, ⟨x, y, ho⟩, ⟨o1, e1, _, d1⟩, ⟨o2, e2, _, d2⟩⟩ := s
  rcases five hc with q | q | q | q | q <;> subst q
  · exact ⟨_, hz, fun w q => nomatch q⟩
  · exact ⟨_, hi, fun w q => nomatch q⟩
  · exact ⟨_, ho, fun w q => nomatch q⟩
  · exact ⟨o1, e1, fun w q => by rw [d1] at q; cases q⟩
  · exact ⟨o2, e2, fun w q => by rw [d2] at q; cases q⟩
theorem kept_but {h g : Heap} {q TI O u v : Addr} (k : Kept h g q O u v) : ∀ c o, c ∉ [q, TI, O, u, v] → h.get? c = some o → g.get? c = some o :=
  fun c o n e => k c o (fun z => n (by simp [z])) (fun z => n (by simp [z])) (fun z => n (by simp [z])) (fun z => n (by simp [z])) e
theorem turn_mix {P : Program} {w : World} {K : PySem.W.Frag} {elts : List Expr} {kk : Nat} {tpos : Pos} {a b z TI TO u v : Addr} (D : ZipApart z TI TO u v a b) :
    Turn P w K (.Tuple elts kk tpos) (Itm K a b) [z, TI, TO, u, v] z (Stand a b z TI TO u v) where
  mem := by simp
  obj := fun i h st c hc => stand_some st hc
  keep := fun i h h' ⟨h1, h2, ⟨x, y, h3⟩, h4, h5⟩ k => ⟨k z (by simp) _ h1, k TI (by simp) _ h2, ⟨x, y, k TO (by simp) _ h3⟩, h4.at fun o q => k u (by simp) o q, h5.at fun o q => k v (by simp) o q⟩
  item := by
    rintro X rfl rfl rfl hc i pins s σ H E I hf st ⟨xs, ys, x, y, qx, qy, ex, ey⟩
    have all := fun c hc => stand_some st (c := c) hc
    obtain ⟨hz, hi, ⟨x0, y0, ho⟩, h1, h2⟩ := st
    obtain ⟨us, rv, p, _⟩ := I.tuple qx
    obtain ⟨vs, rv2, p2, _⟩ := I.list qy
    obtain ⟨m, hm, rm⟩ := rv.get ex
    obtain ⟨n, hn, rn⟩ := rv2.get ey
    have S : At s.heap z TI TO u v a b i i us.toArray vs.toArray := ⟨h1, h2, p, p2.isList⟩
    refine next_turn D hz hi ho S (x := m) (y := n) (by simpa using hm) (by simpa using hn) fun g z' o' u' v' nw sz k => ⟨_, rfl, ?_⟩
    refine wpAny_letOwnedTupleGo_zip (s := { s with heap := g }) z' fun g2 z2 sb => ?_
    have lz : z < s.heap.objs.size := Heap.lt_size hz
    have nw2 : g2.get? s.heap.objs.size = some { cls := .type "tuple", data := .seq #[m, n] } := (sb.2 _ (Nat.ne_of_gt lz)).trans nw
    have ok : ObjOk X.prog X.w (upd H s.heap.objs.size (.tup [x, y])) g2 s.heap.objs.size (.tup [x, y]) := ⟨by show 2 ≤ sizeLine; decide, [m, n], .cons rm (.cons rn .nil), ⟨_, nw2, rfl, _, rfl⟩⟩
    have I2 : Inv X pins σ (upd H s.heap.objs.size (.tup [x, y])) { s with heap := g2 } :=
      I.turnedNew (t' := s.toks) (ch := [z, TI, TO, u, v]) (fun c o hb q => (sb.2 c fun e => hb (by simp [e])).trans (kept_but k c o hb q)) hf (Nat.le_refl _) ok
    refine ⟨.ref s.heap.objs.size, _, I2, rfl, ⟨_, x, y, rfl, I.hok.fresh (Nat.le_refl _), rfl, fun l hl => (I.tuple_inj hl qx).symm ▸ ex, fun l hl => (I.list_inj hl qy).symm ▸ ey⟩, ⟨z2, ?_, ⟨m, n, (sb.2 _ D.TOz).trans o'⟩, ?_, ?_⟩, fun c hc => ?_⟩
    · exact (sb.2 _ D.TIz).trans (k _ _ D.TIz D.TITO D.TIi1 D.TIi2 hi)
    · exact u'.at fun o q => (sb.2 _ D.i1z).trans q
    · exact v'.at fun o q => (sb.2 _ D.i2z).trans q
    · obtain ⟨o, eo, _⟩ := all c hc
      rw [upd_ne (Nat.ne_of_lt (Heap.lt_size eo))]
      exact (hf c hc).1
  done := by
    rintro X rfl rfl rfl hc i pins s σ H E I hf ⟨hz, hi, ⟨x0, y0, ho⟩, h1, h2⟩ ⟨xs, ys, qx, qy, over⟩
    obtain ⟨us, rv, p, _⟩ := I.tuple qx
    obtain ⟨vs, rv2, p2, _⟩ := I.list qy
    have l1 := rv.length
    have l2 := rv2.length
    have S : At s.heap z TI TO u v a b i i us.toArray vs.toArray := ⟨h1, h2, p, p2.isList⟩
    have ov : us.toArray[i]? = none ∨ vs.toArray[i]? = none := over.imp (fun q => by simp; omega) (fun q => by simp; omega)
    exact next_end (I.ok.hd hc) D hz hi ho S ov fun g k => ⟨rfl, I.turnedL (t' := s.toks) (ch := [z, TI, TO, u, v]) (kept_but k) hf⟩
  self := fun A i s Q E st h => wpAny_pyIter_zip st.1 h
def iMix (K : PySem.W.Frag) (ta : TA) : TI := fun σ H R => ta σ H fun vs H1 => ∃ a b xs ys, vs = [.ref a, .ref b] ∧ SqT K H1 a xs ∧ SqL K H1 b ys ∧ R (Itm K a b) H1
theorem pi_mix {X : Cx} {e e2 : Expr} {ta : TA} {p pos tpos : Pos} {elts : List Expr} {kk : Nat} (hg : Gl X "zip") (hm : X.mg "zip" = none) (ha : PA X [e, e2] ta)
    (hs : starEach [e, e2] X.env = (false, eval e X.env) :: starEach [e2] X.env := by rfl) (hpl : (backTo pos (starEach [e2] X.env)).any (·.1) = false := by rfl) :
    PI X (.Tuple elts kk tpos) (.Call (.Name "zip" p) [e, e2] [] pos) (iMix X.K ta) := by
  refine ⟨fun pins s σ H R I h => Call_ (ld_blt I hg hm PyProof.Rows.boot_zip (PyProof.Rows.callWith_type1 (thn (ha.run pos pins s σ H _ I h) fun us s1 ⟨vs, H1, I1, r1, q1⟩ => ?_) hs hpl))⟩
  obtain ⟨a, b, xs, ys, rfl, qx, qy, q⟩ := q1
  cases r1 with
  | cons r rr =>
    cases rr with
    | cons r' rr =>
      cases rr
      cases r
      cases r'
      obtain ⟨m1, rv, p1, _⟩ := I1.tuple qx
      obtain ⟨m2, rv2, p2, _⟩ := I1.list qy
      obtain ⟨o1, ho1, _⟩ := id p1
      refine call_made (show s1.heap.IsTuple a m1.toArray from p1) p2.isList fun g hz hi ho h1 h2 k => wpAny_pyIter_zip hz ?_
      have I2 : Inv X pins σ H1 { s1 with heap := g } := I1.kept (t' := s1.toks) k
      refine ⟨s1.heap.objs.size + 4, [s1.heap.objs.size + 4, s1.heap.objs.size + 2, s1.heap.objs.size + 3, s1.heap.objs.size, s1.heap.objs.size + 1], _, _, H1, rfl, I2, turn_mix (PySem.W.ktu_apart s1.heap.objs.size a b (Heap.lt_size ho1) p2.lt), ⟨hz, hi, ⟨_, _, ho⟩, h1, h2⟩, fun c hc => ?_, q⟩
      have le : s1.heap.objs.size ≤ c := by
        rcases five hc with e | e | e | e | e <;> rw [e] <;> first | exact Nat.le_refl _ | exact Nat.le_add_right _ _
      exact I1.fpOk le (I1.hok.fresh le)
theorem walk_mix {K : PySem.W.Frag} {a b : Addr} {xs ys : List V} {n : Nat} (hn : n = min xs.length ys.length) : Walk (Itm K a b) n (fun H => SqT K H a xs ∧ SqL K H b ys) (YPair (fun i => xs[i]?) (fun i => ys[i]?)) where
  goes i H hi q := ⟨xs, ys, xs[i]'(by omega), ys[i]'(by omega), q.1, q.2, by simp [show i < xs.length by omega], by simp [show i < ys.length by omega]⟩
  stops H q := ⟨xs, ys, q.1, q.2, by omega⟩
  yields i H v H' hi q y := by
    obtain ⟨T, x, z, h1, h2, h3, h4, h5⟩ := y
    exact ⟨T, x, z, h1, h2, h3, h4 xs q.1, h5 ys q.2⟩
end StZ

set_option Elab.async false
set_option linter.all false
set_option maxRecDepth 100000
set_option maxHeartbeats 8000000
namespace Lz
open PySem PySem.Spec PyProof.Rows L2 NKd
theorem seq_mid {ta tb : TS} {D : Ends} {σ : L2.St} {H : Hp} (J : L2.St → Hp → Prop) (hb : ∀ σ H, J σ H → tb D σ H) (ha : (∀ σ H, J σ H → tb D σ H) → ta { D with nx := tb D } σ H) : tSeq ta tb D σ H := ha hb
theorem pi_mxK {X : Cx} {K : PySem.W.Frag} {e e2 : Expr} {ta : TA} {p pos tpos : Pos} {elts : List Expr} {kk : Nat} (h : X.K = K) (hg : Gl X "zip") (hm : X.mg "zip" = none) (ha : PA X [e, e2] ta)
    (hs : starEach [e, e2] X.env = (false, eval e X.env) :: starEach [e2] X.env := by rfl) (hpl : (backTo pos (starEach [e2] X.env)).any (·.1) = false := by rfl) :
    PI X (.Tuple elts kk tpos) (.Call (.Name "zip" p) [e, e2] [] pos) (StZ.iMix K ta) := by subst h; exact StZ.pi_mix hg hm ha hs hpl
def nvD : Option Nv → PyData
  | none => .none
  | some v => wD v
def grD (g : Gr) : PyData := .tuple [g.1.data, .list (g.2.1.map .int), nvD g.2.2]
/-- what is known of the names of a scope -/
def KnS (K : PySem.W.Frag) (H : Hp) (kk : List (Key × V)) (G : Str → Option Nv) (sc : List Str) : Prop := ∀ x, x ∈ sc → ∃ v a, G x = some v ∧ valV kk (Sum.inr x) = some (.ref a) ∧ SqT K H a [.str v.1, .int v.2]
section
variable {K : PySem.W.Frag} {H H' : Hp} {kk : List (Key × V)} {G : Str → Option Nv} {sc : List Str}
theorem KnS.mono (h : KnS K H kk G sc) (k : ∀ {a xs}, SqT K H a xs → SqT K H' a xs) : KnS K H' kk G sc := fun x m => by
  obtain ⟨v, a, q0, q1, q2⟩ := h x m
  exact ⟨v, a, q0, q1, k q2⟩
theorem KnS.put (h : KnS K H kk G sc) {y : Str} {v : Nv} {T : Addr} (hT : SqT K H T [.str v.1, .int v.2]) (hG : G y = some v) : KnS K H (putK kk (Sum.inr y) (.ref T)) G (sc ++ [y]) := fun x m => by
  by_cases e : (Sum.inr x : Key) = Sum.inr y
  · have e2 := Sum.inr.inj e
    subst e2
    exact ⟨v, T, hG, by rw [valV_put, if_pos rfl], hT⟩
  · rcases List.mem_append.mp m with m | m
    · obtain ⟨u, a, q0, q1, q2⟩ := h x m
      exact ⟨u, a, q0, by rw [valV_put, if_neg e]; exact q1, q2⟩
    · exact absurd (congrArg Sum.inr (List.mem_singleton.mp m)) e
end
theorem ipl_append : ∀ (q : Int) (as bs : List Lz.P), ipl q (as ++ bs) = ipl q as ++ ipl (q + (Lz.P.manys as : Int)) bs
  | q, [], bs => by
    show ipl q bs = ipl (q + ((0 : Nat) : Int)) bs
    simp
  | q, a :: as, bs => by
    have e : q + ((a.many + Lz.P.manys as : Nat) : Int) = q + (a.many : Int) + (Lz.P.manys as : Int) := by omega
    show ipl q (a :: (as ++ bs)) = ipl q (a :: as) ++ ipl (q + ((a.many + Lz.P.manys as : Nat) : Int)) bs
    rw [e, ipl, ipl_append (q + (a.many : Int)) as bs, ipl]
    rfl
theorem alls_mem : ∀ {as : List Lz.P} {d : Lz.P}, d ∈ as → d ∈ Lz.P.alls as
  | a :: as, d, m => by
    show d ∈ a.all ++ Lz.P.alls as
    rcases List.mem_cons.mp m with rfl | m
    · rw [all_inn d]
      exact List.mem_append_left _ List.mem_cons_self
    · exact List.mem_append_right _ (alls_mem m)
theorem DpSs.snoc1 {K : PySem.W.Frag} {S : List Addr} {H : Hp} {xs ys : List V} {ds es : List PyData} (h : DpSs K S H xs ds) (g : DpSs K S H ys es) : DpSs K S H (xs ++ ys) (ds ++ es) := h.append g
def spGround (K : PySem.W.Frag) (n : Nat) : Sp := fun vs H Q _ => ∃ (v : V) (q : Int) (D : Addr) (t : Lz.P) (kv : List (Key × V)) (G : Str → Option Nv) (sc F : List Str) (S : List Addr), vs = [v, .int q, .ref D] ∧ Dp K H v t.data ∧ t.ok ∧ t.fit F sc ∧ t.many ≤ 60 ∧ t.deep ≤ n ∧ n ≤ 12 ∧ H D = some (.dK kv) ∧ kv.length + 4 * n ≤ 100 ∧ KnS K H kv G sc ∧ (∀ e, e ∈ rws q t.all → G e.1 = some e.2) ∧ (∀ x, x ∈ S → ∃ o, H x = some o) ∧ ∀ (l : Addr) (xs : List V) (H' : Hp), Kp [] H H' → H l = none → H' l = some (.lst xs) → DpSs K S H' xs ((grs G q t.all).map grD) → Q (.ref l) H'
section
variable {P : Program} {w : World} {K : PySem.W.Frag} {mg : Str → Option Value} {base : Heap} {f : Addr} {fd : FuncData}
abbrev sLGround : Stmt := topS 27
theorem scLGround : FnScope ["_law_part_here", "_law_place", "_law_known", "_law_inner_here", "_law_at", "_law_parts", "_law_one", "_law_row", "_law_found"] ["_law_part_here", "_law_place", "_law_known"] (defScope sLGround) := ⟨rfl, rfl, rfl, by decide +kernel, rfl, by decide +kernel, by decide +kernel⟩
theorem ok_ground {n j : Nat} (hj : 13 ≤ j) (F : Fun K "_law_ground" "_law_ground" sLGround f fd) (mzip : mg "zip" = none) (mdict : mg "dict" = none) (CLInner : C8.Cal P w K mg base 1 "_law_inner" (spInn K) []) (CLMany : C8.Cal P w K mg base 13 "_law_many" (spMany K 12) []) (CLGround : C8.Cal P w K mg base j "_law_ground" (spGround K n) []) : FnOk P w K mg base CX0 (j + 1) f fd ["_law_part_here", "_law_place", "_law_known"] (spGround K (n + 1)) := by
  refine F.ok scLGround (fun vs H Q E h => ?_) (fun cdv A outer s H vs Q E hr h => ?_)
  · obtain ⟨v, q0, D, t, kv, G, sc, Fs, S, rfl, _⟩ := h
    rfl
  have hu := hu_of hr
  obtain ⟨v, q0, D, t, kv, G, sc, Fs, S, rfl, hd, hok, hfit, hmany, hdeep, hn12, hD, hkl, hkn, hrw, hSx, q⟩ := h
  refine ⟨_, (pss_cons (ps_set (i := 3) scLGround.nd rfl (.inl rfl) (pe_lst pa_nil))
    (pss_cons (ps_set (i := 4) scLGround.nd rfl (.inl rfl) (pe_op op_add (pv 1) pe_int))
    (pss_cons (ps_set (i := 5) scLGround.nd rfl (.inl rfl) (C8.pe_c CLInner hr (by first | decide | omega) (by rfl) (pa_cons (pv 0) pa_nil)))
    (pss_cons (ps_for PassesOwn.never rfl (pi_listK (K := K) rfl (pv 5)) (pg_name (i := 6) scLGround.nd rfl (.inl rfl)) (pss_cons (ps_expr (pe_bmK (K := K) rfl PySem.F.plainAttrs_list PySem.F.slot_list_append PySem.F.type_list_append mt_append (pv 3) (pa_cons (pv 4) pa_nil)))
    (pss_one (ps_set (i := 4) scLGround.nd rfl (.inl rfl) (pe_op op_add (pv 4) (C8.pe_c CLMany hr (by first | decide | omega) (by rfl) (pa_cons (pv 6) pa_nil)))))))
    (pss_cons (ps_if (pt_cmpR op_eq (pe_ix (ix_tupK (K := K) rfl) (pv 0) pe_int (fun _ _ => rfl)) pe_str (nomark _)) (pss_cons (ps_set (i := 2) scLGround.nd rfl (.inl rfl) (pe_callTy call_dictD (by rfl) mdict (by decide +kernel) (pa_cons (pv 2) pa_nil)))
    (pss_one (ps_for PassesOwn.never rfl (pi_mxK (K := K) rfl (by rfl) mzip (pa_cons (pe_ix (ix_tupK (K := K) rfl) (pv 0) pe_int (fun _ _ => rfl)) (pa_cons (pv 3) pa_nil))) (pg_tupK (K := K) (n := 2) rfl rfl (pgs_cons (pg_name (i := 7) scLGround.nd rfl (.inl rfl)) (pgs_cons (pg_name (i := 4) scLGround.nd rfl (.inl rfl)) pgs_nil))) (pss_one (ps_dput hu (pv 2) (pe_ix (ix_tupK (K := K) rfl) (pv 7) pe_int (fun _ _ => rfl)) (pe_tup (pa_cons pe_str (pa_cons (pv 4) pa_nil))) rfl))))) pss_nil)
    (pss_cons (ps_set (i := 8) scLGround.nd rfl (.inl rfl) (pe_lst (pa_cons (pe_tup (pa_cons (pv 0) (pa_cons (pv 3) (pa_cons (pe_ifExp (pt_cmpR op_eq (pe_ix (ix_tupK (K := K) rfl) (pv 0) pe_int (fun _ _ => rfl)) pe_str (nomark _)) (pe_dget hu (pv 2) (pe_ix (ix_tupK (K := K) rfl) (pv 0) pe_int (fun _ _ => rfl)) (fun _ _ => rfl)) pe_non) pa_nil)))) pa_nil)))
    (pss_cons (ps_for PassesOwn.never rfl (StZ.pi_zipLK (K := K) rfl (by rfl) mzip (pa_cons (pv 5) (pa_cons (pv 3) pa_nil))) (pg_tupK (K := K) (n := 2) rfl rfl (pgs_cons (pg_name (i := 6) scLGround.nd rfl (.inl rfl)) (pgs_cons (pg_name (i := 4) scLGround.nd rfl (.inl rfl)) pgs_nil))) (pss_one (ps_set (i := 8) scLGround.nd rfl (.inl rfl) (pe_op op_cat (pv 8) (C8.pe_c CLGround hr (by first | decide | omega) (by rfl) (pa_cons (pv 6) (pa_cons (pv 4) (pa_cons (pv 2) pa_nil))))))))
    (pss_one (ps_ret (pv 8)))))))))), ?_⟩
  refine ⟨Nat.zero_le _, fun L hL => ?_⟩
  have k1 : Kp [] H (upd H L (.lst [])) := Kp.new hL
  have hL1 : (upd H L (.lst [])) L = some (.lst (([] : List Int).map V.int)) := upd_same
  have hd1 := Dp.keep k1 _ _ (data_fz _) hd
  generalize upd H L (.lst []) = H1 at k1 hL1 hd1 ⊢
  refine ⟨_, rfl, _, _, rfl, rfl, ?_⟩
  have hlen := inn_len (show t.many ≤ 1000 by omega)
  refine ⟨_, rfl, v, t, rfl, hd1, hok, by omega, fun l xs H2 k2 hl0 hl hx => ?_⟩
  have hL2 := k2.lst hL1 (fun m => nomatch m)
  have nLl : L ≠ l := fun e => by rw [← e, hL1] at hl0; cases hl0
  have hxl : xs.length = t.inn.length := by rw [hx.length, datas_len]
  have hLS : ¬ L ∈ S := fun m => by
    obtain ⟨o, e⟩ := hSx L m
    rw [hL] at e
    cases e
  have hal := all_len t
  have hainn := all_inn t
  refine ⟨_, rfl, l, rfl, ⟨_, SqL.of hl⟩, for_list (K := K) (a := l) (xs := xs) (fun i σ H' => ∃ (v6 : Option V), σ = [some v, some (.int q0), some (.ref D), some (.ref L), some (.int (q0 + 1 + (Lz.P.manys (t.inn.take i) : Int))), some (.ref l), v6, none, none] ∧ Kp [] H H' ∧ H' L = some (.lst ((ipl (q0 + 1) (t.inn.take i)).map V.int)) ∧ H' l = some (.lst xs) ∧ DpAll K H' xs (Lz.P.datas t.inn))
    ⟨_, by rw [List.take_zero]; show _ = [_, _, _, _, some (V.int (q0 + 1 + ((0 : Nat) : Int))), _, _, _, _]; rw [Int.natCast_zero, Int.add_zero]; rfl, k1.trans k2, hL2, hl, hx⟩ (fun i σ H' _ ⟨_, _, _, _, h, _⟩ => SqL.of h) ?_ ?_⟩
  · rintro i x σ H3 hi ⟨v6, rfl, k3, hL3, hl3, hx3⟩
    have hil := (List.getElem?_eq_some_iff.mp hi).1
    obtain ⟨d, had, hdd⟩ := at_inn hx3 hi
    obtain ⟨dok, dm, ddp⟩ := inn_fits (n := n) hok (by omega) (by omega) had
    refine ⟨_, rfl, .inl ⟨rfl, _, SqL.of hL3⟩, _, rfl, L, _, _, rfl, rfl, hL3, small1000 (by rw [List.length_map, ipl_len, List.length_take]; omega), ?_⟩
    have e2 : (ipl (q0 + 1) (t.inn.take i)).map V.int ++ [V.int (q0 + 1 + (Lz.P.manys (t.inn.take i) : Int))] = (ipl (q0 + 1) (t.inn.take (i + 1))).map V.int := by
      rw [List.take_add_one, had]
      show _ = (ipl (q0 + 1) (t.inn.take i ++ [d])).map V.int
      rw [ipl_snoc, List.map_append]
      rfl
    rw [e2]
    have kk : Kp [L] H3 (upd H3 L (.lst ((ipl (q0 + 1) (t.inn.take (i + 1))).map V.int))) := Kp.put hL3 List.mem_cons_self
    have hl4 := kk.lst hl3 (fun m => nLl (List.mem_singleton.mp m).symm)
    have hd4 := Dp.keep kk _ _ (data_fz _) hdd
    have hx4 := Dp.keepAll kk _ _ (datas_fz _) hx3
    have hL4 : (upd H3 L (.lst ((ipl (q0 + 1) (t.inn.take (i + 1))).map V.int))) L = some (.lst ((ipl (q0 + 1) (t.inn.take (i + 1))).map V.int)) := upd_same
    have k4 := k3.mut hL (o := .lst ((ipl (q0 + 1) (t.inn.take (i + 1))).map V.int))
    generalize upd H3 L (.lst ((ipl (q0 + 1) (t.inn.take (i + 1))).map V.int)) = H4 at hl4 hd4 hx4 hL4 k4 ⊢
    refine ⟨_, rfl, _, rfl, x, d, rfl, hd4, dok, dm, by omega, fun H5 k5 => ?_⟩
    refine ⟨_, _, rfl, rfl, ?_⟩
    have e3 : q0 + 1 + (Lz.P.manys (t.inn.take i) : Int) + (d.many : Int) = q0 + 1 + (Lz.P.manys (t.inn.take (i + 1)) : Int) := by
      rw [List.take_add_one, had, manys_append]
      show _ = q0 + 1 + ((Lz.P.manys (t.inn.take i) + (d.many + 0) : Nat) : Int)
      omega
    exact ⟨_, by show [_, _, _, _, some (V.int (q0 + 1 + (Lz.P.manys (t.inn.take i) : Int) + (d.many : Int))), _, _, _, _] = _; rw [e3], k4.trans k5, k5.lst hL4 (fun m => nomatch m), k5.lst hl4 (fun m => nomatch m), Dp.keepAll k5 _ _ (datas_fz _) hx4⟩
  rintro σ H3 ⟨v6, rfl, k3, hL3, hl3, hx3⟩
  rw [hxl, List.take_length] at hL3
  have hD3 := k3 _ _ hD (fun m => nomatch m)
  have hd3 := Dp.keep k3 _ _ (data_fz _) hd
  have hkn3 := hkn.mono (fun {a xs} h => k3.sqT h)
  refine seq_mid (fun σ H' => σ = [some v, some (.int q0), some (.ref D), some (.ref L), some (.int (q0 + 1 + (Lz.P.manys (t.inn.take xs.length) : Int))), some (.ref l), v6, none, none] ∧ H' = H3) ?_ (fun nx2 => nx2 _ _ ⟨rfl, rfl⟩)
  rintro σ H3 ⟨rfl, rfl⟩
  refine seq_mid (fun σ H' => ∃ (D' : Addr) (v4 v6 v7 : Option V) (kv' : List (Key × V)), σ = [some v, some (.int q0), some (.ref D'), some (.ref L), v4, some (.ref l), v6, v7, none] ∧ Kp [] H H' ∧ H' L = some (.lst ((ipl (q0 + 1) t.inn).map V.int)) ∧ H' l = some (.lst xs) ∧ DpAll K H' xs (Lz.P.datas t.inn) ∧ H' D' = some (.dK kv') ∧ kv'.length ≤ kv.length + 4 ∧ KnS K H' kv' G (sc ++ t.own)) ?_ (fun nx => ?_)
  · rintro σ H4 ⟨D', v4, v6, v7, kv', rfl, k4, hL4, hl4, hx4, hD4, hkl4, hkn4⟩
    have hd4 := Dp.keep k4 _ _ (data_fz _) hd
    obtain ⟨av, us, rfl, hav, hus⟩ := hd_at hd4
    -- the first row
    have row : ∀ (u : V) (H5 : Hp), Kp [] H4 H5 → DpS K S H5 u (nvD (nmd G t)) → ∀ T, H5 T = none → ∀ l0, (upd H5 T (.tup [.ref av, .ref L, u])) l0 = none → Kp [] H (upd (upd H5 T (.tup [.ref av, .ref L, u])) l0 (.lst [.ref T])) ∧ DpSs K S (upd (upd H5 T (.tup [.ref av, .ref L, u])) l0 (.lst [.ref T])) [.ref T] (([(t, ipl (q0 + 1) t.inn, nmd G t)] : List Gr).map grD) := fun u H5 k5 hu5 T hT l0 hl0 => by
      have kT : Kp S H5 (upd H5 T (.tup [.ref av, .ref L, u])) := Kp.new hT
      have kl : Kp S (upd H5 T (.tup [.ref av, .ref L, u])) (upd (upd H5 T (.tup [.ref av, .ref L, u])) l0 (.lst [.ref T])) := Kp.new hl0
      have kT0 : Kp [] H5 (upd H5 T (.tup [.ref av, .ref L, u])) := Kp.new hT
      have kl0 : Kp [] (upd H5 T (.tup [.ref av, .ref L, u])) (upd (upd H5 T (.tup [.ref av, .ref L, u])) l0 (.lst [.ref T])) := Kp.new hl0
      refine ⟨k4.trans (k5.trans (kT0.trans kl0)), .cons (.tup (SqT.of (kl0 _ _ upd_same (fun m => nomatch m))) (.cons ?_ (.cons ?_ (.cons ?_ .nil)))) .nil⟩
      · exact DpS.of _ _ (data_fz _) (Dp.keep (k5.trans (kT0.trans kl0)) _ _ (data_fz _) hd4)
      · exact .lst ((k5.trans (kT0.trans kl0)).lst hL4 (fun m => nomatch m)) hLS (intsS _)
      · exact DpS.keep (kT.trans kl) _ _ hu5
    refine seq_mid (fun σ H' => ∃ (l0 : Addr) (x0 : List V) (v4 v6 v7 : Option V), σ = [some (.ref av), some (.int q0), some (.ref D'), some (.ref L), v4, some (.ref l), v6, v7, some (.ref l0)] ∧ Kp [] H4 H' ∧ H l0 = none ∧ H' l0 = some (.lst x0) ∧ DpSs K S H' x0 (([(t, ipl (q0 + 1) t.inn, nmd G t)] : List Gr).map grD)) ?_ (fun nx => ?_)
    · rintro σ H6 ⟨l0, x0, v4, v6, v7, rfl, k6, zl0, hl06, hx06⟩
      have k06 := k4.trans k6
      have hiz := ipl_len (q0 + 1) t.inn
      refine ⟨_, rfl, _, rfl, l, L, xs, (ipl (q0 + 1) t.inn).map V.int, rfl, SqL.of (k6.lst hl4 (fun m => nomatch m)), SqL.of (k6.lst hL4 (fun m => nomatch m)), for_it (walk_zip (K := K) (a := l) (b := L) (xs := xs) (ys := (ipl (q0 + 1) t.inn).map V.int) (n := t.inn.length) (by rw [List.length_map, hiz, hxl]; omega)) (fun i σ H' => ∃ (v4 v6 v7 : Option V) (l1 : Addr) (x1 : List V), σ = [some (.ref av), some (.int q0), some (.ref D'), some (.ref L), v4, some (.ref l), v6, v7, some (.ref l1)] ∧ Kp [] H4 H' ∧ H l1 = none ∧ H' l1 = some (.lst x1) ∧ DpSs K S H' x1 (((t, ipl (q0 + 1) t.inn, nmd G t) :: grs G (q0 + 1) (Lz.P.alls (t.inn.take i))).map grD))
        ⟨v4, v6, v7, l0, x0, rfl, k6, zl0, hl06, by rw [List.take_zero]; exact hx06⟩ (fun i σ H' _ ⟨_, _, _, _, _, _, k, _⟩ => ⟨SqL.of (k.lst hl4 (fun m => nomatch m)), SqL.of (k.lst hL4 (fun m => nomatch m))⟩) ?_ ?_⟩
      · rintro i x σ H7 H8 hi ⟨v4, v6, v7, l1, x1, rfl, k7, zl1, hl7, hx7⟩ ⟨T2, y1, y2, rfl, hT2, rfl, f1, f2⟩
        have f1 : xs[i]? = some y1 := f1
        have f2 : ((ipl (q0 + 1) t.inn).map V.int)[i]? = some y2 := f2
        obtain ⟨d, had, hdd⟩ := at_inn (Dp.keepAll k7 _ _ (datas_fz _) hx4) f1
        have e2 : y2 = .int (q0 + 1 + (Lz.P.manys (t.inn.take i) : Int)) := by
          have e := ipl_snoc (q0 + 1) (t.inn.take i) d
          have e3 : t.inn.take (i + 1) = t.inn.take i ++ [d] := by rw [List.take_add_one, had]; rfl
          have e4 : t.inn = t.inn.take (i + 1) ++ t.inn.drop (i + 1) := (List.take_append_drop _ _).symm
          have e5 := ipl_append (q0 + 1) (t.inn.take (i + 1)) (t.inn.drop (i + 1))
          rw [← e4, e3, e] at e5
          rw [e5, List.map_append, List.map_append, List.append_assoc, List.getElem?_append_right (by rw [List.length_map, ipl_len, List.length_take]; omega), List.length_map, ipl_len, List.length_take, Nat.min_eq_left (by omega), Nat.sub_self] at f2
          exact (Option.some.inj f2).symm
        subst e2
        obtain ⟨dok, dm, ddp⟩ := inn_fits (n := n) hok (by omega) (by omega) had
        have dmem := List.mem_of_getElem? had
        have dfit := fit_inn hfit d dmem
        have dmany : d.many ≤ 60 := by
          have := all_small t d (by rw [hainn]; exact List.mem_cons_of_mem _ (alls_mem dmem))
          omega
        have kT : Kp [] H7 (upd H7 T2 (.tup [y1, .int (q0 + 1 + (Lz.P.manys (t.inn.take i) : Int))])) := Kp.new hT2
        have kTS : Kp S H7 (upd H7 T2 (.tup [y1, .int (q0 + 1 + (Lz.P.manys (t.inn.take i) : Int))])) := Kp.new hT2
        have hT3 : (upd H7 T2 (.tup [y1, .int (q0 + 1 + (Lz.P.manys (t.inn.take i) : Int))])) T2 = some (.tup [y1, .int (q0 + 1 + (Lz.P.manys (t.inn.take i) : Int))]) := upd_same
        have hl8 := kT.lst hl7 (fun m => nomatch m)
        have hx8 := DpSs.keep kTS _ _ hx7
        have hdd8 := Dp.keep kT _ _ (data_fz _) hdd
        have k8 := k7.trans kT
        generalize upd H7 T2 (.tup [y1, .int (q0 + 1 + (Lz.P.manys (t.inn.take i) : Int))]) = H8 at hT3 hl8 hx8 hdd8 k8 ⊢
        refine ⟨T2, _, rfl, SqT.of hT3, rfl, _, _, rfl, _, _, rfl, rfl, ?_⟩
        have hkn8 := hkn4.mono (fun {a xs} h => k8.sqT h)
        have e9 : t.inn.take (i + 1) = t.inn.take i ++ [d] := by rw [List.take_add_one, had]; rfl
        have eal : Lz.P.alls t.inn = Lz.P.alls (t.inn.take i) ++ (d.all ++ Lz.P.alls (t.inn.drop (i + 1))) := by
          have e4 : t.inn = t.inn.take (i + 1) ++ t.inn.drop (i + 1) := (List.take_append_drop _ _).symm
          have e5 := congrArg Lz.P.alls e4
          rw [e5, e9, alls_append, alls_append, List.append_assoc]
          show _ ++ ((d.all ++ []) ++ _) = _
          rw [List.append_nil]
        refine ⟨_, rfl, _, rfl, _, rfl, _, rfl, y1, q0 + 1 + (Lz.P.manys (t.inn.take i) : Int), D', d, kv', G, sc ++ t.own, Fs, S, rfl, hdd8, dok, dfit, dmany, ddp, by omega, k8 _ _ hD4 (fun m => nomatch m), by omega, hkn8, fun e me => hrw e ?_, fun x mx => ?_, fun l2 x2 H9 k9 hl20 hl2 hx2 => ?_⟩
        · rw [hainn, show rws q0 (t :: Lz.P.alls t.inn) = rowsOf q0 t ++ rws (q0 + 1) (Lz.P.alls t.inn) from rfl, eal, rws_append, rws_append, alls_len]
          exact List.mem_append_right _ (List.mem_append_right _ (List.mem_append_left _ me))
        · obtain ⟨o, e⟩ := hSx x mx
          exact ⟨o, (k4.trans k8) _ _ e (fun m => nomatch m)⟩
        have hl9 := k9.lst hl8 (fun m => nomatch m)
        have k9S : Kp S H8 H9 := k9.mono (fun _ m => nomatch m)
        have hx9 := DpSs.keep k9S _ _ hx8
        have ln1 := hx9.len
        have ln2 := hx2.len
        rw [List.length_map, List.length_cons, grs_len, alls_len] at ln1
        rw [List.length_map, grs_len, all_len] at ln2
        have lnm : Lz.P.manys (t.inn.take i) + d.many ≤ t.many := by
          have e6 := congrArg List.length eal
          rw [List.length_append, List.length_append, alls_len, alls_len, all_len] at e6
          have e7 := many_inn t
          omega
        refine ⟨l1, l2, _, _, rfl, rfl, hl9, hl2, by have := small1000 (n := x1.length + x2.length) (by omega); omega, fun p3 hp3 => ?_⟩
        have k10 : Kp S H9 (upd H9 p3 (.lst (x1 ++ x2))) := Kp.new hp3
        have k10n : Kp [] H9 (upd H9 p3 (.lst (x1 ++ x2))) := Kp.new hp3
        refine ⟨_, _, _, p3, _, rfl, (k8.trans k9).trans k10n, (k4.trans (k8.trans k9)).free hp3 (fun m => nomatch m), upd_same, ?_⟩
        rw [e9, alls_append, show Lz.P.alls [d] = d.all ++ [] from rfl, List.append_nil, grs_append, alls_len, ← List.cons_append, List.map_append]
        exact (DpSs.keep k10 _ _ hx9).append (DpSs.keep k10 _ _ hx2)
      · rintro σ H7 ⟨v4, v6, v7, l1, x1, rfl, k7, zl1, hl7, hx7⟩
        refine ⟨_, rfl, q l1 x1 H7 (k4.trans k7) zl1 hl7 ?_⟩
        rw [List.take_length] at hx7
        rw [hainn]
        exact hx7
    · refine ⟨_, rfl, _, rfl, _, rfl, av, _, _, _, rfl, rfl, hav, at_of (j := 0) rfl rfl, rfl, _, rfl, ?_⟩
      refine ite2 (fun cc => ?_) (fun cc => ?_)
      · have hdn : t.hd = "name" := V.str.inj (of_decide_eq_true cc)
        obtain ⟨x, rfl⟩ : ∃ x, t = .nam x := by
          cases t with
          | num i => exact absurd hdn (show ¬ ("number" : Str) = "name" by decide +kernel)
          | nam x => exact ⟨x, rfl⟩
          | fn x => exact absurd hdn (show ¬ ("fun" : Str) = "name" by decide +kernel)
          | op k as => exact absurd hdn (kind_plain (show (k, as.length) ∈ kinds ∧ Lz.P.oks as from hok).1).2.2.1
          | lt nm as b => exact absurd hdn (show ¬ ("let" : Str) = "name" by decide +kernel)
        obtain ⟨a5, u5, e5, ht5, hu5⟩ := two_at (k := "name") (e := .str x) hd4
        obtain rfl := V.ref.inj e5
        cases hu5
        obtain ⟨nv, an, hG, hv, hsq⟩ := hkn4 x (List.mem_append_left _ (show x ∈ sc from hfit))
        refine ⟨_, rfl, _, rfl, av, _, _, _, rfl, rfl, ht5, at_of (j := 1) rfl rfl, D', .ref an, rfl, by have := DGet.k (k := Sum.inr x) hD4; rw [hv] at this; exact this, ?_⟩
        refine ⟨by show 3 ≤ sizeLine; decide, fun T hT => ⟨by show 1 ≤ sizeLine; decide, fun l0 hl0 => ?_⟩⟩
        have e5 : nvD (nmd G (.nam x)) = .tuple [.str nv.1, .int nv.2] := by
          show nvD (G x) = _
          rw [hG]
          rfl
        obtain ⟨g1, g2⟩ := row (.ref an) H4 (Kp.refl _ _) (by rw [e5]; exact .tup hsq (.cons (.str _) (.cons (.int _) .nil))) T hT l0 hl0
        have kk : Kp [] H4 (upd (upd H4 T (.tup [.ref av, .ref L, .ref an])) l0 (.lst [.ref T])) := (Kp.new hT).trans (Kp.new hl0)
        exact nx _ _ ⟨l0, _, v4, v6, v7, rfl, kk, (k4.trans (Kp.new hT)).free hl0 (fun m => nomatch m), upd_same, g2⟩
      · have hdn : ¬ t.hd = "name" := fun q => by
          rw [decide_eq_true (congrArg V.str q)] at cc
          exact absurd rfl cc
        have e5 : nmd G t = none := by
          cases t with
          | nam x => exact absurd rfl hdn
          | num i => rfl
          | fn x => rfl
          | op k as => rfl
          | lt nm as b => rfl
        refine ⟨by show 3 ≤ sizeLine; decide, fun T hT => ⟨by show 1 ≤ sizeLine; decide, fun l0 hl0 => ?_⟩⟩
        obtain ⟨g1, g2⟩ := row .non H4 (Kp.refl _ _) (by rw [e5]; exact .non) T hT l0 hl0
        have kk : Kp [] H4 (upd (upd H4 T (.tup [.ref av, .ref L, .non])) l0 (.lst [.ref T])) := (Kp.new hT).trans (Kp.new hl0)
        exact nx _ _ ⟨l0, _, v4, v6, v7, rfl, kk, (k4.trans (Kp.new hT)).free hl0 (fun m => nomatch m), upd_same, g2⟩
  · obtain ⟨av, us, rfl, hav, hus⟩ := hd_at hd3
    refine ⟨_, rfl, av, _, _, _, rfl, rfl, hav, at_of (j := 0) rfl rfl, rfl, _, rfl, ?_⟩
    refine ite2 (fun cc => ?_) (fun cc => ?_)
    · have hdn : t.hd = "let" := V.str.inj (of_decide_eq_true cc)
      obtain ⟨nm, as, b, rfl⟩ : ∃ nm as b, t = .lt nm as b := by
        cases t with
        | num i => exact absurd hdn (show ¬ ("number" : Str) = "let" by decide +kernel)
        | nam x => exact absurd hdn (show ¬ ("name" : Str) = "let" by decide +kernel)
        | fn x => exact absurd hdn (show ¬ ("fun" : Str) = "let" by decide +kernel)
        | op k as => exact absurd hdn (kind_plain (show (k, as.length) ∈ kinds ∧ Lz.P.oks as from hok).1).1
        | lt nm as b => exact ⟨nm, as, b, rfl⟩
      refine ⟨_, rfl, D, kv, rfl, .inl hD3, fun D' hD' => ?_⟩
      have kd : Kp [] H3 (upd H3 D' (.dK kv)) := Kp.new hD'
      have hD4 : (upd H3 D' (.dK kv)) D' = some (.dK kv) := upd_same
      have hL4 := kd.lst hL3 (fun m => nomatch m)
      have hl4 := kd.lst hl3 (fun m => nomatch m)
      have hx4 := Dp.keepAll kd _ _ (datas_fz _) hx3
      have hd4 := Dp.keep kd _ _ (data_fz _) hd3
      have hkn4 := hkn3.mono (fun {a xs} h => kd.sqT h)
      have k4 := k3.trans kd
      have zD' : H D' = none := k3.free hD' (fun m => nomatch m)
      generalize upd H3 D' (.dK kv) = H4 at hD4 hL4 hl4 hx4 hd4 hkn4 k4 ⊢
      obtain ⟨a6, r, rs, vb, e6, ht, hrt, hrs, _⟩ := let_atU hd4
      obtain rfl := V.ref.inj e6
      have hna : nm.length = as.length := hok.1
      have hrl : rs.length = nm.length := by rw [hrs.length, List.length_zipWith, datas_len]; omega
      have h4' : nm.length ≤ 4 := hfit.2.1
      have hiz := ipl_len (q0 + 1) (Lz.P.lt nm as b).inn
      have hil : (Lz.P.lt nm as b).inn.length = as.length + 1 := by
        show (as ++ [b]).length = _
        rw [List.length_append]
        rfl
      refine ⟨_, rfl, av, _, _, _, rfl, rfl, ht, at_of (j := 1) rfl rfl, _, rfl, r, L, rs, _, rfl, hrt, SqL.of hL4, for_it (StZ.walk_mix (K := K) (a := r) (b := L) (xs := rs) (ys := (ipl (q0 + 1) (Lz.P.lt nm as b).inn).map V.int) (n := nm.length) (by rw [List.length_map, hiz, hrl]; omega)) (fun c σ H' => ∃ (v4 v6 v7 : Option V) (kk : List (Key × V)), σ = [some (.ref av), some (.int q0), some (.ref D'), some (.ref L), v4, some (.ref l), v6, v7, none] ∧ Kp [] H H' ∧ H' L = some (.lst ((ipl (q0 + 1) (Lz.P.lt nm as b).inn).map V.int)) ∧ H' l = some (.lst xs) ∧ DpAll K H' xs (Lz.P.datas (Lz.P.lt nm as b).inn) ∧ SqT K H' r rs ∧ DpAll K H' rs (List.zipWith rowD nm (Lz.P.datas as)) ∧ H' D' = some (.dK kk) ∧ kk.length ≤ kv.length + c ∧ KnS K H' kk G (sc ++ nm.take c))
        ⟨_, _, _, kv, rfl, k4, hL4, hl4, hx4, hrt, hrs, hD4, Nat.le_refl _, by rw [List.take_zero, List.append_nil]; exact hkn4⟩ (fun c σ H' _ ⟨_, _, _, _, _, _, g1, _, _, g2, _⟩ => ⟨g2, SqL.of g1⟩) ?_ ?_⟩
      · rintro c x σ H5 H6 hc ⟨v4, v6, v7, kk, rfl, k5, hL5, hl5, hx5, hrt5, hrs5, hD5, hkl5, hkn5⟩ ⟨T2, y1, y2, rfl, hT2, rfl, f1, f2⟩
        have f1 : rs[c]? = some y1 := f1
        have f2 : ((ipl (q0 + 1) (Lz.P.lt nm as b).inn).map V.int)[c]? = some y2 := f2
        obtain ⟨tr, y, u, d, rfl, htr, hy, _, _⟩ := row_atU hrs5 f1
        obtain ⟨z, rfl, hrow⟩ := rowsOf_at hok (show (Lz.P.lt nm as b).own[c]? = some y from hy) f2
        have kT : Kp [] H5 (upd H5 T2 (.tup [.ref tr, .int z])) := Kp.new hT2
        have hT3 : (upd H5 T2 (.tup [.ref tr, .int z])) T2 = some (.tup [.ref tr, .int z]) := upd_same
        have hL6 := kT.lst hL5 (fun m => nomatch m)
        have hl6 := kT.lst hl5 (fun m => nomatch m)
        have hx6 := Dp.keepAll kT _ _ (datas_fz _) hx5
        have hrt6 := kT.sqT hrt5
        have htr6 := kT.sqT htr
        have hrs6 := Dp.keepAll kT _ _ rows_fz hrs5
        have hD6 := kT _ _ hD5 (fun m => nomatch m)
        have hkn6 := hkn5.mono (fun {a xs} h => kT.sqT h)
        have k6 := k5.trans kT
        generalize upd H5 T2 (.tup [.ref tr, .int z]) = H6 at hT3 hL6 hl6 hx6 hrt6 htr6 hrs6 hD6 hkn6 k6 ⊢
        refine ⟨T2, _, rfl, SqT.of hT3, rfl, _, _, rfl, _, _, rfl, rfl, ?_⟩
        refine ⟨_, rfl, (by show 2 ≤ sizeLine; decide), fun T4 hT4 => ?_⟩
        have kU : Kp [] H6 (upd H6 T4 (.tup [.str "row", .int z])) := Kp.new hT4
        have hU : SqT K (upd H6 T4 (.tup [.str "row", .int z])) T4 [.str "row", .int z] := SqT.of upd_same
        have hL7 := kU.lst hL6 (fun m => nomatch m)
        have hl7 := kU.lst hl6 (fun m => nomatch m)
        have hx7 := Dp.keepAll kU _ _ (datas_fz _) hx6
        have hrt7 := kU.sqT hrt6
        have htr7 := kU.sqT htr6
        have hrs7 := Dp.keepAll kU _ _ rows_fz hrs6
        have hD7 := kU _ _ hD6 (fun m => nomatch m)
        have hkn7 := hkn6.mono (fun {a xs} h => kU.sqT h)
        have k7 := k6.trans kU
        generalize upd H6 T4 (.tup [.str "row", .int z]) = H7 at hU hL7 hl7 hx7 hrt7 htr7 hrs7 hD7 hkn7 k7 ⊢
        refine ⟨_, rfl, _, rfl, tr, _, _, _, rfl, rfl, htr7, at_of (j := 0) rfl rfl, D', _, rfl, DPut.k (k := Sum.inr y) hD7 (small1000 (by omega)), ?_⟩
        have kD : Kd D' H7 (upd H7 D' (.dK (putK kk (Sum.inr y) (.ref T4)))) := Kd.at _ _ _
        have hG : G y = some (("row" : Str), z) := by
          refine hrw (y, (("row" : Str), z)) ?_
          rw [hainn]
          exact List.mem_append_left _ (List.mem_of_getElem? hrow)
        refine ⟨_, _, _, _, rfl, k7.mut zD', kD.lst hL7 hD7, kD.lst hl7 hD7, kD.all hD7 (datas_fz _) hx7, kD.ks.sqT (noT_d hD7) hrt7, kD.all hD7 rows_fz hrs7, upd_same, by have := length_putK kk (Sum.inr y) (V.ref T4); omega, ?_⟩
        rw [List.take_add_one, hy, ← List.append_assoc]
        exact (hkn7.put (v := (("row" : Str), z)) hU hG).mono (fun {a xs} h => kD.ks.sqT (noT_d hD7) h)
      · rintro σ H5 ⟨v4, v6, v7, kk, rfl, k5, hL5, hl5, hx5, hrt5, hrs5, hD5, hkl5, hkn5⟩
        rw [List.take_length] at hkn5
        exact nx _ _ ⟨D', v4, v6, v7, kk, rfl, k5, hL5, hl5, hx5, hD5, by omega, hkn5⟩
    · have hdn : ¬ t.hd = "let" := fun q => by
        rw [decide_eq_true (congrArg V.str q)] at cc
        exact absurd rfl cc
      have e5 : t.own = [] := by
        cases t with
        | lt nm as b => exact absurd rfl hdn
        | num i => rfl
        | fn x => rfl
        | op k as => rfl
        | nam x => rfl
      exact nx _ _ ⟨D, _, _, _, kv, rfl, k3, hL3, hl3, hx3, hD3, by omega, by rw [e5, List.append_nil]; exact hkn3⟩
end
end Lz

set_option Elab.async false
set_option linter.all false
set_option maxRecDepth 100000
set_option maxHeartbeats 8000000
namespace Lz
open PySem PySem.Spec PyProof.Rows L2 NKd
def drs : Int → List Fn → List (Str × Int × Int)
  | _, [] => []
  | q, g :: gs => (g.1, q, (g.2.1.length : Int)) :: drs (q + (g.2.2.many : Int)) gs
theorem drs_snoc : ∀ (q : Int) (gs : List Fn) (g : Fn), drs q (gs ++ [g]) = drs q gs ++ [(g.1, q + (manyF gs : Int), (g.2.1.length : Int))]
  | q, [], g => by
    show [(g.1, q, (g.2.1.length : Int))] = [(g.1, q + ((0 : Nat) : Int), (g.2.1.length : Int))]
    simp
  | q, a :: gs, g => by
    have e : q + (manyF (a :: gs) : Int) = q + (a.2.2.many : Int) + (manyF gs : Int) := by rw [manyF_cons]; omega
    show (a.1, q, (a.2.1.length : Int)) :: drs _ (gs ++ [g]) = (a.1, q, (a.2.1.length : Int)) :: drs _ gs ++ _
    rw [e, drs_snoc]
    rfl
theorem drs_fst : ∀ (q : Int) (gs : List Fn), (drs q gs).map (·.1) = gs.map (·.1)
  | _, [] => rfl
  | q, g :: gs => by
    show g.1 :: (drs _ gs).map (·.1) = g.1 :: gs.map (·.1)
    rw [drs_fst]
/-- what is known of the doors -/
def DrOk (K : PySem.W.Frag) (H : Hp) (kd : List (Key × V)) (L : List (Str × Int × Int)) : Prop := ∀ e, e ∈ L → ∃ a, valV kd (Sum.inr e.1) = some (.ref a) ∧ SqT K H a [.int e.2.1, .int e.2.2]
theorem DrOk.mono {K : PySem.W.Frag} {H H' : Hp} {kd : List (Key × V)} {L : List (Str × Int × Int)} (h : DrOk K H kd L) (k : ∀ {a xs}, SqT K H a xs → SqT K H' a xs) : DrOk K H' kd L := fun e m => by
  obtain ⟨a, q1, q2⟩ := h e m
  exact ⟨a, q1, k q2⟩
/-- the law's own table of places -/
structure GdAt (K : PySem.W.Frag) (S : List Addr) (H : Hp) (ga fl dd : Addr) (xs : List V) (kd : List (Key × V)) (gs : List Fn) : Prop where
  ob : H ga = some (.lst [.ref fl, .ref dd])
  lst : H fl = some (.lst xs)
  dt : DpSs K S H xs ((allG 0 gs).map grD)
  dr : H dd = some (.dK kd)
  ds : DrOk K H kd (drs 0 gs)
  av : ∀ x, x ∈ [ga, fl, dd] → ¬ x ∈ S
section
variable {K : PySem.W.Frag} {S : List Addr} {H H' : Hp} {ga fl dd : Addr} {xs : List V} {kd : List (Key × V)} {gs : List Fn}
theorem GdAt.keepU {T : List Addr} (h : GdAt K S H ga fl dd xs kd gs) (k : Ks T H H') (hT : ∀ x, x ∈ T → x ∈ S) (n0 : NoT T H) : GdAt K S H' ga fl dd xs kd gs := by
  have av : ∀ x, x ∈ [ga, fl, dd] → ¬ x ∈ T := fun x m q => h.av x m (hT x q)
  refine ⟨k _ _ h.ob (av _ (by simp)), k _ _ h.lst (av _ (by simp)), DpSs.keepT k (fun x mx o e => ⟨(n0 x mx o e).1, (n0 x mx o e).2, fun vs _ => hT x mx⟩) _ _ h.dt, k _ _ h.dr (av _ (by simp)), h.ds.mono (fun {a xs} q => k.sqT n0 q), h.av⟩
theorem GdAt.keep (h : GdAt K S H ga fl dd xs kd gs) (k : Kp [] H H') : GdAt K S H' ga fl dd xs kd gs :=
  h.keepU (T := []) (fun b o e _ => k b o e (fun m => nomatch m)) (fun x m => nomatch m) (fun x m => nomatch m)
theorem GdAt.moreS {l : Addr} (h : GdAt K S H ga fl dd xs kd gs) (hl : H l = none) : GdAt K (l :: S) H ga fl dd xs kd gs := by
  refine ⟨h.ob, h.lst, DpSs.more hl _ _ h.dt, h.dr, h.ds, fun x mx q => ?_⟩
  rcases List.mem_cons.mp q with e | q
  · subst e
    simp only [List.mem_cons, List.not_mem_nil, or_false] at mx
    rcases mx with e | e | e
    · rw [e, h.ob] at hl; cases hl
    · rw [e, h.lst] at hl; cases hl
    · rw [e, h.dr] at hl; cases hl
  · exact h.av x mx q
end
def spGrounds (K : PySem.W.Frag) : Sp := fun vs H Q _ => ∃ (v : V) (fs : List Fn) (d : Lz.P) (S : List Addr), vs = [v] ∧ Dp K H v (progD fs d) ∧ Prog fs d ∧ (∀ x, x ∈ S → ∃ o, H x = some o) ∧ ∀ (ga fl dd : Addr) (xs : List V) (kd : List (Key × V)) (H' : Hp), Kp [] H H' → GdAt K S H' ga fl dd xs kd (fnsOf fs d) → Q (.ref ga) H'
section
variable {P : Program} {w : World} {K : PySem.W.Frag} {mg : Str → Option Value} {base : Heap} {f : Addr} {fd : FuncData}
abbrev sLGrounds : Stmt := topS 30
theorem scLGrounds : FnScope ["_law_program_here", "_law_found", "_law_doors", "_law_name", "_law_names_here", "_law_body_here", "_law_known", "_law_k", "_law_one"] ["_law_program_here"] (defScope sLGrounds) := ⟨rfl, rfl, rfl, by decide +kernel, rfl, by decide +kernel, by decide +kernel⟩
theorem ok_grounds {j : Nat} (hj : 1 ≤ j) (F : Fun K "_law_grounds" "_law_grounds" sLGrounds f fd) (B : Bt mg) (menum : mg "enumerate" = none) (CLGround : C8.Cal P w K mg base j "_law_ground" (spGround K 12) []) : FnOk P w K mg base CX0 (j + 1) f fd ["_law_program_here"] (spGrounds K) := by
  have ml := B.len
  refine F.ok scLGrounds (fun vs H Q E h => ?_) (fun cdv A outer s H vs Q E hr h => ?_)
  · obtain ⟨v, fs, d, S, rfl, _⟩ := h
    rfl
  have hu := hu_of hr
  obtain ⟨v, fs, d, S, rfl, hd, hprog, hSx, q⟩ := h
  refine ⟨_, (pss_cons (ps_set (i := 1) scLGrounds.nd rfl (.inl rfl) (pe_lst pa_nil))
    (pss_cons (ps_set (i := 2) scLGrounds.nd rfl (.inl rfl) pe_dnewK)
    (pss_cons (ps_for PassesOwn.never rfl (pi_tupK (K := K) rfl (pe_op (op_catAK (K := K) rfl) (pe_ix (ix_tupK (K := K) rfl) (pv 0) pe_int (fun _ _ => rfl)) (pe_tup (pa_cons (pe_tup (pa_cons pe_str (pa_cons (pe_tup pa_nil) (pa_cons (pe_ix (ix_tupK (K := K) rfl) (pv 0) pe_int (fun _ _ => rfl)) pa_nil)))) pa_nil)))) (pg_tupK (K := K) (n := 3) rfl rfl (pgs_cons (pg_name (i := 3) scLGrounds.nd rfl (.inl rfl)) (pgs_cons (pg_name (i := 4) scLGrounds.nd rfl (.inl rfl)) (pgs_cons (pg_name (i := 5) scLGrounds.nd rfl (.inl rfl)) pgs_nil)))) (pss_cons (ps_set (i := 6) scLGrounds.nd rfl (.inl rfl) pe_dnewK)
    (pss_cons (ps_for PassesOwn.never rfl (EnS.pi_enT (K := K) rfl (by rfl) menum (pa_cons (pv 4) pa_nil)) (pg_tupK (K := K) (n := 2) rfl rfl (pgs_cons (pg_name (i := 7) scLGrounds.nd rfl (.inl rfl)) (pgs_cons (pg_name (i := 8) scLGrounds.nd rfl (.inl rfl)) pgs_nil))) (pss_one (ps_dput hu (pv 6) (pv 8) (pe_tup (pa_cons pe_str (pa_cons (pv 7) pa_nil))) rfl)))
    (pss_cons (ps_dput hu (pv 2) (pv 3) (pe_tup (pa_cons (pe_callB (call_lenK (K := K) rfl) (by rfl) ml PySem.boot_len (pa_cons (pv 1) pa_nil)) (pa_cons (pe_callB (call_lenK (K := K) rfl) (by rfl) ml PySem.boot_len (pa_cons (pv 4) pa_nil)) pa_nil))) rfl)
    (pss_one (ps_set (i := 1) scLGrounds.nd rfl (.inl rfl) (pe_op op_cat (pv 1) (C8.pe_c CLGround hr (by first | decide | omega) (by rfl) (pa_cons (pv 5) (pa_cons (pe_callB (call_lenK (K := K) rfl) (by rfl) ml PySem.boot_len (pa_cons (pv 1) pa_nil)) (pa_cons (pv 6) pa_nil)))))))))))
    (pss_one (ps_ret (pe_lst (pa_cons (pv 1) (pa_cons (pv 2) pa_nil)))))))), ?_⟩
  obtain ⟨pr, xs, rfl, hpr, hxs⟩ := Dp.tup_of (ds := [.tuple (fs.map fD), d.data]) hd
  obtain ⟨ft, rs, vd, rfl, hft, hrs, hvd⟩ : ∃ ft rs vd, xs = [.ref ft, vd] ∧ SqT K H ft rs ∧ DpAll K H rs (fs.map fD) ∧ Dp K H vd d.data := by
    cases hxs with
    | cons h1 h2 =>
      obtain ⟨ft, rs, rfl, hft, hrs⟩ := h1.tup_of
      cases h2 with
      | cons h3 h4 =>
        cases h4
        exact ⟨ft, rs, _, rfl, hft, hrs, h3⟩
  have hrl : rs.length = fs.length := by rw [hrs.length, List.length_map]
  have hfit := hprog.fits
  have h8 := hfit.len
  have hndF := fns_nodup hfit
  refine ⟨Nat.zero_le _, fun l0 hl0 => ?_⟩
  have k0 : Kp [] H (upd H l0 (.lst [])) := Kp.new hl0
  have hl1 : (upd H l0 (.lst [])) l0 = some (.lst []) := upd_same
  generalize upd H l0 (.lst []) = H1 at k0 hl1 ⊢
  refine fun dd hdd0 => ?_
  have zdd : H dd = none := k0.free hdd0 (fun m => nomatch m)
  have kd0 : Kp [] H1 (upd H1 dd (.dK [])) := Kp.new hdd0
  have hdd1 : (upd H1 dd (.dK [])) dd = some (.dK []) := upd_same
  have hl1 := kd0.lst hl1 (fun m => nomatch m)
  have k0 := k0.trans kd0
  generalize upd H1 dd (.dK []) = H1 at k0 hl1 hdd1 ⊢
  refine ⟨_, rfl, pr, _, _, _, rfl, rfl, k0.sqT hpr, at_of (j := 0) rfl rfl, ?_⟩
  refine ⟨Nat.zero_le _, fun e he => ?_⟩
  have ke : Kp [] H1 (upd H1 e (.tup [])) := Kp.new he
  have he2 : (upd H1 e (.tup [])) e = some (.tup []) := upd_same
  generalize upd H1 e (.tup []) = H2 at ke he2 ⊢
  have k2 := k0.trans ke
  have hl2 := ke _ _ hl1 (fun m => nomatch m)
  have hdd2 := ke _ _ hdd1 (fun m => nomatch m)
  refine ⟨_, rfl, pr, _, _, _, rfl, rfl, k2.sqT hpr, at_of (j := 1) rfl rfl, ?_⟩
  refine ⟨by show 3 ≤ sizeLine; decide, fun t ht => ?_⟩
  have kt : Kp [] H2 (upd H2 t (.tup [.str "", .ref e, vd])) := Kp.new ht
  have ht2 : (upd H2 t (.tup [.str "", .ref e, vd])) t = some (.tup [.str "", .ref e, vd]) := upd_same
  generalize upd H2 t (.tup [.str "", .ref e, vd]) = H3 at kt ht2 ⊢
  have he3 := kt _ _ he2 (fun m => nomatch m)
  have hl3 := kt _ _ hl2 (fun m => nomatch m)
  have hdd3 := kt _ _ hdd2 (fun m => nomatch m)
  have k3 := k2.trans kt
  have hlast : Dp K H3 (.ref t) (fD (askedFn d)) := .tup (.inl (.inl ht2)) (.cons (.str _) (.cons (.tup (.inl (.inl he3)) .nil) (.cons (Dp.keep k3 _ _ (data_fz _) hvd) .nil)))
  have hdx := (Dp.keepAll k3 _ _ (fdU_fz _) hrs).append (.one hlast)
  refine ⟨by show 1 ≤ sizeLine; decide, fun o ho => ?_⟩
  have ko : Kp [] H3 (upd H3 o (.tup [.ref t])) := Kp.new ho
  have ho2 : (upd H3 o (.tup [.ref t])) o = some (.tup [.ref t]) := upd_same
  generalize upd H3 o (.tup [.ref t]) = H4 at ko ho2 ⊢
  have k4 := k3.trans ko
  have hl4 := ko _ _ hl3 (fun m => nomatch m)
  have hdd4 := ko _ _ hdd3 (fun m => nomatch m)
  have ee : (fnsOf fs d).map fD = fs.map fD ++ [fD (askedFn d)] := by
    show (fs ++ [askedFn d]).map fD = _
    rw [List.map_append]
    rfl
  rw [← ee] at hdx
  have hdx4 := Dp.keepAll ko _ _ (fdU_fz _) hdx
  refine catA_any (k4.sqT hft) (SqT.of ho2) (by rw [hrl]; exact Nat.le_of_lt (small1000 (by show fs.length + 1 ≤ 1000; omega))) fun T H5 k5 hT => ?_
  have hl5 := k5 _ _ hl4 (fun m => nomatch m)
  have hdd5 := k5 _ _ hdd4 (fun m => nomatch m)
  have hdx5 := Dp.keepAll k5 _ _ (fdU_fz _) hdx4
  have hlen : (rs ++ [V.ref t]).length = (fnsOf fs d).length := by rw [hdx.length, List.length_map]
  have hfl : (fnsOf fs d).length ≤ 9 := by
    rw [← hlen, List.length_append, hrl]
    show fs.length + 1 ≤ 9
    omega
  have hSk : ∀ {x : Addr}, H x = none → ¬ x ∈ S := fun {x} e m => by
    obtain ⟨o, e2⟩ := hSx x m
    rw [e] at e2
    cases e2
  refine ⟨T, rfl, ⟨_, hT⟩, for_tup (K := K) (a := T) (xs := rs ++ [.ref t]) (fun c σ H' => ∃ (v3 v4 v5 v6 v7 v8 : Option V) (l : Addr) (xs : List V) (kd : List (Key × V)), σ = [some (.ref pr), some (.ref l), some (.ref dd), v3, v4, v5, v6, v7, v8] ∧ Kp [] H H' ∧ SqT K H' T (rs ++ [.ref t]) ∧ DpAll K H' (rs ++ [.ref t]) ((fnsOf fs d).map fD) ∧ H l = none ∧ H' l = some (.lst xs) ∧ DpSs K S H' xs ((allG 0 ((fnsOf fs d).take c)).map grD) ∧ H' dd = some (.dK kd) ∧ kd.length ≤ c ∧ DrOk K H' kd (drs 0 ((fnsOf fs d).take c)))
    ⟨none, none, none, none, none, none, l0, [], [], rfl, k4.trans k5, hT, hdx5, hl0, hl5, .nil, hdd5, Nat.le_refl _, fun e m => nomatch m⟩ (fun c σ H' _ ⟨_, _, _, _, _, _, _, _, _, _, _, g, _⟩ => g) ?_ ?_⟩
  · rintro c x σ H6 hc ⟨v3, v4, v5, v6, v7, v8, l, xs, kd, rfl, k6, hT6, hx6, zl, hl6, hxs6, hdd6, ldd, hdr6⟩
    have hcl := (List.getElem?_eq_some_iff.mp hc).1
    obtain ⟨g, t1, r0, u, hg, rfl, ht1, hr0, hu0⟩ := fn_atU hx6 hc
    have hgm := List.mem_of_getElem? hg
    have hbd := hfit.bd g hgm
    have hft := hfit.ft g hgm
    have hfw := hfit.few g hgm
    have hhid := hfit.hid g hgm
    have hmy := hbd.many
    have htk : (fnsOf fs d).take (c + 1) = (fnsOf fs d).take c ++ [g] := by rw [List.take_add_one, hg]; rfl
    have hpl := manyF_take (fnsOf fs d) c (fun g m => (hfit.bd g m).many)
    have lxs : xs.length = manyF ((fnsOf fs d).take c) := by
      have := hxs6.len
      rw [List.length_map, allG_len] at this
      exact this
    have newn : ∀ y, y ∈ ((fnsOf fs d).take c).map (·.1) → ¬ y = g.1 := fun y my => by
      have hs : (((fnsOf fs d).take c).map (·.1) ++ [g.1]).Nodup := by
        have : ((fnsOf fs d).take (c + 1)).map (·.1) = ((fnsOf fs d).take c).map (·.1) ++ [g.1] := by rw [htk, List.map_append]; rfl
        rw [← this, List.map_take]
        exact hndF.sublist (List.take_sublist _ _)
      exact (List.nodup_append.mp hs).2.2 _ my _ List.mem_cons_self
    have allok : ∀ d, d ∈ g.2.2.all → d.ok := fun d hd => (all_ok g.2.2 hbd.ok d hd).1
    have hLn : ∀ q, ((Lf g.2.1 q g.2.2.all).map (·.1)).Nodup := fun q => by rw [rows_names allok, all_own]; exact hhid
    refine ⟨t1, _, rfl, ht1, rfl, _, _, rfl, _, _, rfl, _, _, rfl, rfl, ?_⟩
    refine fun D hD => ?_
    have zD : H D = none := k6.free hD (fun m => nomatch m)
    have kD : Kp [] H6 (upd H6 D (.dK [])) := Kp.new hD
    have hD7 : (upd H6 D (.dK [])) D = some (.dK []) := upd_same
    have nDd : dd ≠ D := ne_of_none hdd6 hD
    refine ⟨_, rfl, r0, _, rfl, kD.sqT hr0, for_it (EnS.walk_fromT (K := K) (a := r0) (k := 0) (xs := g.2.1.map V.str)) (fun i σ H' => ∃ (v7 v8 : Option V) (kk : List (Key × V)), σ = [some (.ref pr), some (.ref l), some (.ref dd), some (.str g.1), some (.ref r0), some u, some (.ref D), v7, v8] ∧ Kp [] H6 H' ∧ H' D = some (.dK kk) ∧ kk.length ≤ i ∧ Kn K H' kk (thg 0 (g.2.1.take i)))
      ⟨_, _, [], rfl, kD, hD7, Nat.le_refl _, fun e m => nomatch m⟩ (fun i σ H' _ ⟨_, _, _, _, k, _⟩ => k.sqT hr0) ?_ ?_⟩
    · rintro i x σ H7 H8 hi ⟨v7, v8, kk, rfl, k7, hK, hkl, hkk⟩ ⟨T1, a1, a2, rfl, hT1, rfl, e1, e2⟩
      obtain rfl := Option.some.inj e1
      have e2 : (g.2.1.map V.str)[i]? = some a2 := e2
      rw [List.getElem?_map] at e2
      obtain ⟨y, hy, rfl⟩ : ∃ y, g.2.1[i]? = some y ∧ a2 = .str y := by
        cases e : g.2.1[i]? with
        | none => rw [e] at e2; cases e2
        | some y => rw [e] at e2; exact ⟨y, rfl, (Option.some.inj e2).symm⟩
      have kT : Kp [] H7 (upd H7 T1 (.tup [.int (0 + (i : Nat)), .str y])) := Kp.new hT1
      have hT2 : (upd H7 T1 (.tup [.int (0 + (i : Nat)), .str y])) T1 = some (.tup [.int (0 + (i : Nat)), .str y]) := upd_same
      have hK2 := kT _ _ hK (fun m => nomatch m)
      have k8 := k7.trans kT
      have hkk2 := hkk.mono (fun {a xs} h => kT.sqT h)
      generalize upd H7 T1 (.tup [.int (0 + (i : Nat)), .str y]) = H8 at hT2 hK2 k8 hkk2 ⊢
      refine ⟨T1, _, rfl, SqT.of hT2, rfl, _, _, rfl, _, _, rfl, rfl, ?_⟩
      refine ⟨_, rfl, (by show 2 ≤ sizeLine; decide), fun T2 hT3 => ?_⟩
      have kU : Kp [] H8 (upd H8 T2 (.tup [.str "thing", .int (0 + (i : Nat))])) := Kp.new hT3
      have hU : SqT K (upd H8 T2 (.tup [.str "thing", .int (0 + (i : Nat))])) T2 [.str "thing", .int (0 + (i : Nat))] := SqT.of upd_same
      have hK3 := kU _ _ hK2 (fun m => nomatch m)
      have hkk3 := hkk2.mono (fun {a xs} h => kU.sqT h)
      have k9 := k8.trans kU
      generalize upd H8 T2 (.tup [.str "thing", .int (0 + (i : Nat))]) = H9 at hU hK3 hkk3 k9 ⊢
      refine ⟨_, rfl, _, rfl, D, _, rfl, DPut.k (k := Sum.inr y) hK3 (small1000 (by have := (List.getElem?_eq_some_iff.mp hy).1; omega)), ?_⟩
      have hnn : g.2.1.Nodup := (List.nodup_append.mp hhid).1
      have e3 : thg 0 (g.2.1.take (i + 1)) = thg 0 (g.2.1.take i) ++ [(y, (("thing" : Str), (0 + (i : Nat) : Int)))] := by
        have hil := (List.getElem?_eq_some_iff.mp hy).1
        rw [List.take_add_one, hy]
        show thg 0 (g.2.1.take i ++ [y]) = _
        rw [thg_append, List.length_take, Nat.min_eq_left (by omega)]
        rfl
      have kE : Kd D H9 (upd H9 D (.dK (putK kk (Sum.inr y) (.ref T2)))) := Kd.at _ _ _
      refine ⟨_, _, _, rfl, k9.mut hD, upd_same, by have := length_putK kk (Sum.inr y) (V.ref T2); omega, ?_⟩
      rw [e3]
      refine (hkk3.put (v := (("thing" : Str), (0 + (i : Nat) : Int))) hU (fun e me he => ?_)).mono (fun {a xs} h => kE.ks.sqT (noT_d hK3) h)
      have m1 : e.1 ∈ g.2.1.take i := by
        have : e.1 ∈ (thg 0 (g.2.1.take i)).map (·.1) := List.mem_map.mpr ⟨e, me, rfl⟩
        rwa [thg_fst] at this
      have hs : (g.2.1.take i ++ [y]).Nodup := by
        have : g.2.1.take (i + 1) = g.2.1.take i ++ [y] := by rw [List.take_add_one, hy]; rfl
        rw [← this]
        exact hnn.sublist (List.take_sublist _ _)
      exact (List.nodup_append.mp hs).2.2 _ m1 y List.mem_cons_self he
    rintro σ H7 ⟨v7, v8, kk, rfl, k7, hK, hkl, hkk⟩
    rw [List.length_map] at hkl hkk
    rw [List.take_length] at hkk
    have hl7 := k7.lst hl6 (fun m => nomatch m)
    have hdd7 := k7 _ _ hdd6 (fun m => nomatch m)
    have hr7 := k7.sqT hr0
    refine ⟨_, rfl, l, _, rfl, .inl (SqL.of hl7), _, rfl, r0, _, rfl, .inr hr7, (by show 2 ≤ sizeLine; decide), fun p1 hp1 => ?_⟩
    rw [lxs, List.length_map]
    have k8 : Kp [] H7 (upd H7 p1 (.tup [.int (manyF ((fnsOf fs d).take c) : Nat), .int (g.2.1.length : Nat)])) := Kp.new hp1
    have hp2 : SqT K (upd H7 p1 (.tup [.int (manyF ((fnsOf fs d).take c) : Nat), .int (g.2.1.length : Nat)])) p1 [.int (manyF ((fnsOf fs d).take c) : Nat), .int (g.2.1.length : Nat)] := SqT.of upd_same
    have hl8 := k8.lst hl7 (fun m => nomatch m)
    have hdd8 := k8 _ _ hdd7 (fun m => nomatch m)
    have hK8 := k8 _ _ hK (fun m => nomatch m)
    have hkk8 := hkk.mono (fun {a xs} h => k8.sqT h)
    have kk8 := k7.trans k8
    have hdr8 := hdr6.mono (fun {a xs} h => kk8.sqT h)
    generalize upd H7 p1 (.tup [.int (manyF ((fnsOf fs d).take c) : Nat), .int (g.2.1.length : Nat)]) = H8 at hp2 hl8 hdd8 hK8 hkk8 kk8 hdr8 ⊢
    refine ⟨_, rfl, _, rfl, dd, _, rfl, DPut.k (k := Sum.inr g.1) hdd8 (small1000 (by omega)), ?_⟩
    have kE : Kd dd H8 (upd H8 dd (.dK (putK kd (Sum.inr g.1) (.ref p1)))) := Kd.at _ _ _
    have hdd9 : (upd H8 dd (.dK (putK kd (Sum.inr g.1) (.ref p1)))) dd = some (.dK (putK kd (Sum.inr g.1) (.ref p1))) := upd_same
    have hl9 := kE.lst hl8 hdd8
    have hK9 := kE _ _ hK8 nDd.symm
    have hkk9 := hkk8.mono (fun {a xs} h => kE.ks.sqT (noT_d hdd8) h)
    have k09 : Kp [] H (upd H8 dd (.dK (putK kd (Sum.inr g.1) (.ref p1)))) := (k6.trans kk8).mut zdd
    have hT9 := kE.ks.sqT (noT_d hdd8) (kk8.sqT hT6)
    have hx9 := kE.all hdd8 (fdU_fz _) (Dp.keepAll kk8 _ _ (fdU_fz _) hx6)
    have hu9 := Dp.keepS kE.ks (noT_d hdd8) _ _ (data_fz _) (Dp.keep kk8 _ _ (data_fz _) hu0)
    have kk8S : Kp S H6 H8 := kk8.mono (fun _ m => nomatch m)
    have hxs9 := DpSs.keepT kE.ks (noL_d hdd8) _ _ (DpSs.keep kk8S _ _ hxs6)
    have hdr9 : DrOk K (upd H8 dd (.dK (putK kd (Sum.inr g.1) (.ref p1)))) (putK kd (Sum.inr g.1) (.ref p1)) (drs 0 ((fnsOf fs d).take (c + 1))) := fun e me => by
      rw [htk, drs_snoc] at me
      rcases List.mem_append.mp me with me | me
      · obtain ⟨a, q1, q2⟩ := hdr8 e me
        refine ⟨a, ?_, kE.ks.sqT (noT_d hdd8) q2⟩
        rw [valV_put, if_neg (fun q => newn e.1 (by rw [← drs_fst 0]; exact List.mem_map.mpr ⟨e, me, rfl⟩) (Sum.inr.inj q))]
        exact q1
      · rw [List.mem_singleton.mp me]
        refine ⟨p1, by rw [valV_put, if_pos rfl], kE.ks.sqT (noT_d hdd8) ?_⟩
        show SqT K H8 p1 [.int (0 + _), _]
        rw [Int.zero_add]
        exact hp2
    have lkd := length_putK kd (Sum.inr g.1) (V.ref p1)
    generalize upd H8 dd (.dK (putK kd (Sum.inr g.1) (.ref p1))) = H9 at hdd9 hl9 hK9 hkk9 k09 hT9 hx9 hu9 hxs9 hdr9 ⊢
    have hG : ∀ e, e ∈ Lf g.2.1 (manyF ((fnsOf fs d).take c) : Int) g.2.2.all → lk (Lf g.2.1 (manyF ((fnsOf fs d).take c) : Int) g.2.2.all) e.1 = some e.2 := fun e me => lk_mem (hLn _) me
    refine ⟨_, rfl, _, rfl, _, rfl, l, _, rfl, .inl (SqL.of hl9), _, rfl, ?_⟩
    rw [lxs]
    refine ⟨u, (manyF ((fnsOf fs d).take c) : Nat), D, g.2.2, kk, lk (Lf g.2.1 (manyF ((fnsOf fs d).take c) : Int) g.2.2.all), g.2.1, _, S, rfl, hu9, hbd.ok, hft, hmy, hbd.deep, Nat.le_refl _, hK9, by omega, fun x mx => ?_, fun e me => hG e (List.mem_append_right _ me), fun x mx => ?_, fun l2 x2 H10 k10 hl20 hl2 hx2 => ?_⟩
    · obtain ⟨e0, me0, ee0⟩ := List.mem_map.mp (show x ∈ (thg 0 g.2.1).map (·.1) by rw [thg_fst]; exact mx)
      obtain ⟨a, q1, q2⟩ := hkk9 e0 me0
      have := hG e0 (List.mem_append_left _ me0)
      rw [ee0] at q1 this
      exact ⟨_, a, this, q1, q2⟩
    · obtain ⟨o, e⟩ := hSx x mx
      exact ⟨o, k09 _ _ e (fun m => nomatch m)⟩
    have hl10 := k10.lst hl9 (fun m => nomatch m)
    have k10S : Kp S H9 H10 := k10.mono (fun _ m => nomatch m)
    have hxs10 := DpSs.keep k10S _ _ hxs9
    have ln2 := hx2.len
    rw [List.length_map, grs_len, all_len] at ln2
    refine ⟨l, l2, _, _, rfl, rfl, hl10, hl2, by have := small1000 (n := xs.length + x2.length) (by omega); omega, fun p3 hp3 => ?_⟩
    have k11 : Kp [] H10 (upd H10 p3 (.lst (xs ++ x2))) := Kp.new hp3
    have k11S : Kp S H10 (upd H10 p3 (.lst (xs ++ x2))) := Kp.new hp3
    have kx := k10.trans k11
    refine ⟨_, _, _, _, _, _, p3, _, _, rfl, k09.trans kx, kx.sqT hT9, Dp.keepAll kx _ _ (fdU_fz _) hx9, (k09.trans k10).free hp3 (fun m => nomatch m), upd_same, ?_, kx _ _ hdd9 (fun m => nomatch m), by omega, hdr9.mono (fun {a xs} h => kx.sqT h)⟩
    rw [htk, allG_snoc, Int.zero_add, List.map_append]
    exact (DpSs.keep k11S _ _ hxs10).append (DpSs.keep k11S _ _ hx2)
  · rintro σ H6 ⟨v3, v4, v5, v6, v7, v8, l, xs, kd, rfl, k6, hT6, hx6, zl, hl6, hxs6, hdd6, ldd, hdr6⟩
    rw [hlen, List.take_length] at hxs6 hdr6
    refine ⟨_, rfl, _, rfl, by show 2 ≤ sizeLine; decide, fun ga hga => ?_⟩
    have kg : Kp [] H6 (upd H6 ga (.lst [.ref l, .ref dd])) := Kp.new hga
    have kgS : Kp S H6 (upd H6 ga (.lst [.ref l, .ref dd])) := Kp.new hga
    refine q ga l dd xs kd _ (k6.trans kg) ⟨upd_same, kg.lst hl6 (fun m => nomatch m), DpSs.keep kgS _ _ hxs6, kg _ _ hdd6 (fun m => nomatch m), hdr6.mono (fun {a xs} h => kg.sqT h), fun x mx => ?_⟩
    simp only [List.mem_cons, List.not_mem_nil, or_false] at mx
    rcases mx with rfl | rfl | rfl
    · exact hSk (k6.free hga (fun m => nomatch m))
    · exact hSk zl
    · exact hSk zdd
/-- the law's own table of nodes -/
structure LtAt (P : Program) (w : World) (H : Hp) (lt kl D : Addr) (b : Bool) (xs : List Nd) (bs : List Addr) : Prop where
  ob : H lt = some (.lst [.ref kl, .ref D, .bl b])
  kp : KpAt H kl xs bs
  db : H D = some (tbl P w D (mkN 0 xs bs))
  nd : xs.Nodup
theorem LtAt.keep {P : Program} {w : World} {H H' : Hp} {lt kl D : Addr} {b : Bool} {xs : List Nd} {bs : List Addr} (h : LtAt P w H lt kl D b xs bs) (k : Kp [] H H') : LtAt P w H' lt kl D b xs bs :=
  ⟨k _ _ h.ob (fun m => nomatch m), h.kp.keep k, k _ _ h.db (fun m => nomatch m), h.nd⟩
theorem LtAt.keepS {P : Program} {w : World} {S : List Addr} {H H' : Hp} {lt kl D : Addr} {b : Bool} {xs : List Nd} {bs : List Addr} (h : LtAt P w H lt kl D b xs bs) (k : Ks S H H') (h1 : ¬ lt ∈ S) (h2 : ¬ kl ∈ S) (h3 : ¬ D ∈ S) (no : ∀ a ys, H a = some (.tup ys) → ¬ a ∈ S) : LtAt P w H' lt kl D b xs bs :=
  ⟨k _ _ h.ob h1, h.kp.keepS k h2 no, k _ _ h.db h3, h.nd⟩
def spLNode (P : Program) (w : World) : Sp := fun vs H Q _ => ∃ (lt kl D th : Addr) (xs : List Nd) (bs : List Addr) (x : Nd), vs = [.ref lt, .int x.1, .ref th] ∧ LtAt P w H lt kl D false xs bs ∧ H th = some (.tup (x.2.map V.int)) ∧ xs.length ≤ 900 ∧
  ∀ (bs' : List Addr) (H' : Hp), Ks [kl, D] H H' → LtAt P w H' lt kl D false (addN xs x) bs' → Q (.int ((addN xs x).idxOf x : Nat)) H'
abbrev sLNode : Stmt := topS 31
theorem scLNode : FnScope ["_law_table", "_law_place", "_law_things", "_law_row"] ["_law_table", "_law_place", "_law_things"] (defScope sLNode) := ⟨rfl, rfl, rfl, by decide +kernel, rfl, by decide +kernel, by decide +kernel⟩
theorem ok_lnode (F : Fun K "_law_node" "_law_node" sLNode f fd) (B : Bt mg) : FnOk P w K mg base CX0 1 f fd ["_law_table", "_law_place", "_law_things"] (spLNode P w) := by
  have ml := B.len
  refine F.ok scLNode (fun vs H Q E h => ?_) (fun cdv A outer s H vs Q E hr h => ?_)
  · obtain ⟨lt, kl, D, th, xs, bs, x, rfl, _⟩ := h
    rfl
  have hu64 := hr.units
  obtain ⟨lt, kl, D, th, xs, bs, x, rfl, N, hth, hl9, q⟩ := h
  refine ⟨_, (pss_cons (ps_set (i := 3) scLNode.nd rfl (.inl rfl) (pe_tup (pa_cons (pv 1) (pa_cons (pv 2) pa_nil))))
    (pss_cons (ps_if (PW.pt (pw_and (pt_cmpR (NKd.op_not hu64) (pv 3) (pe_ix (ix_listK (K := K) rfl) (pv 0) pe_int (fun _ _ => rfl)) rfl) (pw_and1 (pt_truthK (K := K) rfl (pe_ix (ix_listK (K := K) rfl) (pv 0) pe_int (fun _ _ => rfl)) (fun _ => rfl))))) (pss_one (ps_ret (pe_un un_neg pe_int))) pss_nil)
    (pss_cons (ps_if (pt_cmpR (NKd.op_not hu64) (pv 3) (pe_ix (ix_listK (K := K) rfl) (pv 0) pe_int (fun _ _ => rfl)) rfl) (pss_cons (ps_asg (pe_callB (call_lenK (K := K) rfl) (by rfl) ml PySem.boot_len (pa_cons (pe_ix (ix_listK (K := K) rfl) (pv 0) pe_int (fun _ _ => rfl)) pa_nil)) (pg_sub (pe_ix (ix_listK (K := K) rfl) (pv 0) pe_int (fun _ _ => rfl)) (pv 3) (NKd.set_new hu64)))
    (pss_one (ps_expr (pe_bmK (K := K) rfl PySem.F.plainAttrs_list PySem.F.slot_list_append PySem.F.type_list_append mt_append (pe_ix (ix_listK (K := K) rfl) (pv 0) pe_int (fun _ _ => rfl)) (pa_cons (pv 3) pa_nil))))) pss_nil)
    (pss_one (ps_ret (pe_ix (NKd.ix_get hu64) (pe_ix (ix_listK (K := K) rfl) (pv 0) pe_int (fun _ _ => rfl)) (pv 3) (fun _ _ => rfl))))))), ?_⟩
  refine ⟨_, rfl, _, rfl, (by show 2 ≤ sizeLine; decide), fun T hT => ?_⟩
  have kT : Kp [] H (upd H T (.tup [.int x.1, .ref th])) := Kp.new hT
  have hT1 : (upd H T (.tup [.int x.1, .ref th])) T = some (.tup [.int x.1, .ref th]) := upd_same
  have hth1 := kT _ _ hth (fun m => nomatch m)
  have N1 := N.keep kT
  have hx1 : isN (upd H T (.tup [.int x.1, .ref th])) T x := ⟨th, hT1, hth1⟩
  have k1 : Ks [kl, D] H (upd H T (.tup [.int x.1, .ref th])) := Ks.of kT
  generalize upd H T (.tup [.int x.1, .ref th]) = H1 at N1 hx1 k1 ⊢
  have ki := mkN_in 0 N1.kp.dt
  have ml0 := mkN_len (xs := xs) (as := bs) 0 N1.kp.len
  have hat := mkN_at x (xs := xs) (as := bs) 0 N1.kp.len
  refine ⟨_, rfl, _, rfl, lt, _, _, _, rfl, rfl, SqL.of N1.ob, at_of (j := 1) rfl rfl, T, keyN x, D, _, rfl, rfl, N1.db, ki, hx1.kv, depthN x, _, rfl, ?_⟩
  rw [hat]
  by_cases m : x ∈ xs
  · rw [if_pos m]
    refine iteF ?_
    refine iteF ?_
    refine ⟨_, rfl, _, rfl, lt, _, _, _, rfl, rfl, SqL.of N1.ob, at_of (j := 1) rfl rfl, T, keyN x, D, _, rfl, rfl, N1.db, ki, hx1.kv, depthN x, _, rfl, ?_⟩
    rw [hat, if_pos m]
    refine iteF ?_
    refine ⟨_, rfl, lt, _, _, _, rfl, rfl, SqL.of N1.ob, at_of (j := 1) rfl rfl, _, rfl, T, keyN x, D, _, .int ((0 + xs.idxOf x : Nat)), rfl, rfl, N1.db, ki, hx1.kv, depthN x, by rw [hat, if_pos m], ?_⟩
    have e : addN xs x = xs := if_pos m
    have := q bs H1 k1 (by rw [e]; exact N1)
    rw [e] at this
    rw [Nat.zero_add]
    exact this
  · rw [if_neg m]
    refine iteT ?_
    refine ⟨_, rfl, lt, _, _, _, rfl, rfl, SqL.of N1.ob, at_of (j := 2) rfl rfl, false, rfl, ?_⟩
    refine iteF ?_
    refine ⟨_, rfl, _, rfl, lt, _, _, _, rfl, rfl, SqL.of N1.ob, at_of (j := 1) rfl rfl, T, keyN x, D, _, rfl, rfl, N1.db, ki, hx1.kv, depthN x, _, rfl, ?_⟩
    rw [hat, if_neg m]
    refine iteT ?_
    have sz : xs.length < sizeLine := by have := small1000 (n := xs.length) (by omega); exact this
    refine ⟨_, rfl, lt, _, _, _, rfl, rfl, SqL.of N1.ob, at_of (j := 0) rfl rfl, kl, _, rfl, .inl (SqL.of N1.kp.lst), ?_⟩
    refine ⟨_, rfl, lt, _, _, _, rfl, rfl, SqL.of N1.ob, at_of (j := 1) rfl rfl, _, rfl, T, keyN x, D, _, rfl, rfl, N1.db, ki, hx1.kv, depthN x, by rw [hat, if_neg m], by rw [ml0]; exact sz, ?_⟩
    have hD1 := N1.db
    have ntl : kl ≠ D := fun e => by
      have := N1.kp.lst
      rw [e, hD1] at this
      cases this
    have nr1 : lt ≠ D := fun e => by
      have := N1.ob
      rw [e, hD1] at this
      cases this
    have nr2 : lt ≠ kl := fun e => by
      have h1 := N1.ob
      rw [e, N1.kp.lst] at h1
      have h2 := HO.lst.inj (Option.some.inj h1)
      cases bs with
      | nil => cases h2
      | cons b1 bs =>
        cases bs with
        | nil => cases h2
        | cons b2 bs =>
          cases bs with
          | nil => cases h2
          | cons b3 bs => cases h2
    have htl2 : (upd H1 D (tbl P w D (mkN 0 xs bs ++ [(keyN x, T, V.int ((bs.map V.ref).length : Nat))]))) kl = some (.lst (bs.map V.ref)) := by rw [upd_ne ntl]; exact N1.kp.lst
    have ho2 : (upd H1 D (tbl P w D (mkN 0 xs bs ++ [(keyN x, T, V.int ((bs.map V.ref).length : Nat))]))) lt = some (.lst [.ref kl, .ref D, .bl false]) := by rw [upd_ne nr1]; exact N1.ob
    refine ⟨_, rfl, lt, _, _, _, rfl, rfl, SqL.of ho2, at_of (j := 0) rfl rfl, .inl ⟨rfl, _, SqL.of htl2⟩, _, rfl, kl, _, _, rfl, rfl, htl2, by rw [List.length_map, N1.kp.len]; exact small1000 (by omega), ?_⟩
    have e0 : (V.int ((bs.map V.ref).length : Nat)) = .int ((0 + xs.length : Nat)) := by rw [List.length_map, N1.kp.len, Nat.zero_add]
    rw [e0, ← mkN_snoc 0 x T N1.kp.len]
    have e1 : bs.map V.ref ++ [V.ref T] = (bs ++ [T]).map V.ref := by rw [List.map_append]; rfl
    rw [e1]
    have kk : Ks [kl, D] H1 (upd (upd H1 D (tbl P w D (mkN 0 (xs ++ [x]) (bs ++ [T])))) kl (.lst ((bs ++ [T]).map V.ref))) := (Ks.at (by simp)).trans (Ks.at (by simp))
    have kT : ∀ {a us}, H1 a = some (.tup us) → (upd (upd H1 D (tbl P w D (mkN 0 (xs ++ [x]) (bs ++ [T])))) kl (.lst ((bs ++ [T]).map V.ref))) a = some (.tup us) := fun {a us} e => kk _ _ e (fun q => by
      simp only [List.mem_cons, List.not_mem_nil, or_false] at q
      rcases q with rfl | rfl
      · rw [N1.kp.lst] at e; cases e
      · rw [hD1] at e; cases e)
    have hxk : ∀ {a y}, isN H1 a y → isN (upd (upd H1 D (tbl P w D (mkN 0 (xs ++ [x]) (bs ++ [T])))) kl (.lst ((bs ++ [T]).map V.ref))) a y := fun {a y} hy => by
      obtain ⟨t2, g1, g2⟩ := hy
      exact ⟨t2, kT g1, kT g2⟩
    have N3 : LtAt P w (upd (upd H1 D (tbl P w D (mkN 0 (xs ++ [x]) (bs ++ [T])))) kl (.lst ((bs ++ [T]).map V.ref))) lt kl D false (xs ++ [x]) (bs ++ [T]) := ⟨by rw [upd_ne nr2, upd_ne nr1]; exact N1.ob, ⟨upd_same, by rw [List.length_append, List.length_append, N1.kp.len]; rfl, fun j a y h1 h2 => by
      refine hxk ?_
      by_cases hj : j < xs.length
      · rw [List.getElem?_append_left (by rw [N1.kp.len]; exact hj)] at h1
        rw [List.getElem?_append_left hj] at h2
        exact N1.kp.dt j a y h1 h2
      · have hj2 : j = xs.length := by
          have := (List.getElem?_eq_some_iff.mp h2).1
          rw [List.length_append] at this
          simp at this
          omega
        subst hj2
        rw [← N1.kp.len, List.getElem?_concat_length] at h1
        rw [List.getElem?_concat_length] at h2
        cases h1
        cases h2
        exact hx1⟩, by rw [upd_ne ntl.symm, upd_same], List.nodup_append.mpr ⟨N1.nd, by simp, fun a ha b hb e => by
        rw [List.mem_singleton.mp hb] at e
        exact m (e ▸ ha)⟩⟩
    have hx3 := hxk hx1
    have ki3 := mkN_in 0 N3.kp.dt
    have hat3 := mkN_at x (xs := xs ++ [x]) (as := bs ++ [T]) 0 N3.kp.len
    refine ⟨_, rfl, lt, _, _, _, rfl, rfl, SqL.of N3.ob, at_of (j := 1) rfl rfl, _, rfl, T, keyN x, D, _, .int ((0 + (xs ++ [x]).idxOf x : Nat)), rfl, rfl, N3.db, ki3, hx3.kv, depthN x, by rw [hat3, if_pos (by simp)], ?_⟩
    have e : addN xs x = xs ++ [x] := if_neg m
    have := q _ _ (k1.trans kk) (by rw [e]; exact N3)
    rw [e] at this
    rw [Nat.zero_add]
    exact this
def spLSeen (P : Program) (w : World) (K : PySem.W.Frag) : Sp := fun vs H Q _ => ∃ (ga fl dd lt kl D th : Addr) (S : List Addr) (gs : List Fn) (gx : List V) (kd : List (Key × V)) (xs : List Nd) (bs : List Addr) (j : Nat) (l : List Int) (gr : Gr) (k : Nat), vs = [.ref ga, .ref lt, .int (j : Nat), .ref th] ∧ LtAt P w H lt kl D false xs bs ∧ GdAt K S H ga fl dd gx kd gs ∧ H th = some (.tup (l.map V.int)) ∧ xs.length ≤ 900 ∧ (allG 0 gs)[j]? = some gr ∧ Pl gr k ∧ l.length = k ∧
  ∀ (bs' : List Addr) (H' : Hp), Ks [kl, D] H H' → LtAt P w H' lt kl D false (seenR gr.2.2 ((j : Int), l) xs).1 bs' → Q (.int (seenR gr.2.2 ((j : Int), l) xs).2) H'
abbrev sLSeen : Stmt := topS 32
theorem scLSeen : FnScope ["_law_ground_here", "_law_table", "_law_place", "_law_things", "_law_named"] ["_law_ground_here", "_law_table", "_law_place", "_law_things"] (defScope sLSeen) := ⟨rfl, rfl, rfl, by decide +kernel, rfl, by decide +kernel, by decide +kernel⟩
theorem ok_lseen (F : Fun K "_law_seen" "_law_seen" sLSeen f fd) (CLNode : C8.Cal P w K mg base 1 "_law_node" (spLNode P w) []) : FnOk P w K mg base CX0 2 f fd ["_law_ground_here", "_law_table", "_law_place", "_law_things"] (spLSeen P w K) := by
  refine F.ok scLSeen (fun vs H Q E h => ?_) (fun cdv A outer s H vs Q E hr h => ?_)
  · obtain ⟨ga, fl, dd, lt, kl, D, th, S, gs, gx, kd, xs, bs, j, l, gr, k, rfl, _⟩ := h
    rfl
  obtain ⟨ga, fl, dd, lt, kl, D, th, S, gs, gx, kd, xs, bs, j, l, gr, k, rfl, N, GD, hth, hl9, hgr, hPl, hlk, q⟩ := h
  refine ⟨_, (pss_cons (ps_set (i := 4) scLSeen.nd rfl (.inl rfl) (pe_ix (ix_tupK (K := K) rfl) (pe_ix (ix_listK (K := K) rfl) (pe_ix (ix_listK (K := K) rfl) (pv 0) pe_int (fun _ _ => rfl)) (pv 2) (fun _ _ => rfl)) pe_int (fun _ _ => rfl)))
    (pss_cons (ps_if (pt_cmpR op_isN (pv 4) pe_non (nomark _)) (pss_one (ps_ret (C8.pe_c CLNode hr (by first | decide | omega) (by rfl) (pa_cons (pv 1) (pa_cons (pv 2) (pa_cons (pv 3) pa_nil)))))) pss_nil)
    (pss_one (ps_ret (pe_ifExp (pt_cmpR op_eq (pe_ix (ix_tupK (K := K) rfl) (pv 4) pe_int (fun _ _ => rfl)) pe_str (nomark _)) (pe_ix (ix_tupK (K := K) rfl) (pv 3) (pe_ix (ix_tupK (K := K) rfl) (pv 4) pe_int (fun _ _ => rfl)) (fun _ _ => rfl)) (C8.pe_c CLNode hr (by first | decide | omega) (by rfl) (pa_cons (pv 1) (pa_cons (pe_ix (ix_tupK (K := K) rfl) (pv 4) pe_int (fun _ _ => rfl)) (pa_cons (pv 3) pa_nil))))))))), ?_⟩
  obtain ⟨u, hu, hdu⟩ := (DpSs.dp _ _ GD.dt).get (i := j) (d := grD gr) (by rw [List.getElem?_map, hgr]; rfl)
  obtain ⟨au, us, rfl, hau, hus⟩ := Dp.tup_of (ds := [gr.1.data, .list (gr.2.1.map .int), nvD gr.2.2]) hdu
  obtain ⟨u1, u2, u3, rfl, hu3⟩ : ∃ u1 u2 u3, us = [u1, u2, u3] ∧ Dp K H u3 (nvD gr.2.2) := by
    cases hus with
    | cons h1 h2 =>
      cases h2 with
      | cons h3 h4 =>
        cases h4 with
        | cons h5 h6 =>
          cases h6
          exact ⟨_, _, _, rfl, h5⟩
  refine ⟨_, rfl, ga, _, _, _, rfl, rfl, SqL.of GD.ob, at_of (j := 0) rfl rfl, _, rfl, fl, _, _, _, rfl, rfl, SqL.of GD.lst, at_of (j := j) rfl hu, au, _, _, _, rfl, rfl, hau, at_of (j := 2) rfl rfl, ?_⟩
  refine ⟨_, rfl, rfl, _, rfl, ?_⟩
  rcases hPl with ⟨hnone, hh⟩ | ⟨v, hsome, hh, hv2⟩
  · rw [hnone] at hu3
    cases hu3
    refine ite2 (fun _ => ?_) (fun c => absurd (decide_eq_true rfl) c)
    refine ⟨_, rfl, _, rfl, _, rfl, lt, kl, D, th, xs, bs, ((j : Int), l), rfl, N, hth, hl9, fun bs' H' k' N' => ?_⟩
    have e : seenR gr.2.2 ((j : Int), l) xs = (addN xs ((j : Int), l), (((addN xs ((j : Int), l)).idxOf ((j : Int), l) : Nat) : Int)) := by rw [hnone]; rfl
    have := q bs' H' k' (by rw [e]; exact N')
    rw [e] at this
    exact this
  · rw [hsome] at hu3
    obtain ⟨a, ws, rfl, ha, hws⟩ := Dp.tup_of (ds := [.str v.1, .int v.2]) hu3
    obtain rfl : ws = [.str v.1, .int v.2] := by
      cases hws with
      | cons h1 h2 =>
        cases h1
        cases h2 with
        | cons h3 h4 =>
          cases h3
          cases h4
          rfl
    refine ite2 (fun c => absurd c (by rw [decide_eq_false (fun e => nomatch e)]; decide)) (fun _ => ?_)
    refine ⟨_, rfl, a, _, _, _, rfl, rfl, ha, at_of (j := 0) rfl rfl, rfl, _, rfl, ?_⟩
    rcases hv2 with ⟨h1, h2, h3⟩ | h1
    · refine ite2 (fun _ => ?_) (fun c => ?_)
      · have e : seenR gr.2.2 ((j : Int), l) xs = (xs, (l[v.2.toNat]?).getD 0) := by
          rw [hsome]
          show (if v.1 = "thing" then _ else _) = _
          rw [if_pos h1]
        have hn : v.2.toNat < l.length := by omega
        have hg := List.getElem?_eq_getElem hn
        have := q bs H (Ks.refl _ _) (by rw [e]; exact N)
        rw [e, hg] at this
        refine ⟨_, rfl, _, rfl, a, _, _, _, rfl, rfl, ha, at_of (j := 1) rfl rfl, th, _, _, _, rfl, rfl, SqT.of hth, at_of (j := v.2.toNat) (by omega) (by rw [List.getElem?_map, hg]; rfl), this⟩
      · exact absurd (by rw [decide_eq_true (congrArg V.str h1)]) c
    · refine ite2 (fun c => ?_) (fun _ => ?_)
      · exact absurd c (by rw [decide_eq_false (fun e => by rw [h1] at e; exact absurd (V.str.inj e) (by decide +kernel))]; decide)
      · have ntg : ¬ v.1 = "thing" := by rw [h1]; decide +kernel
        have e : seenR gr.2.2 ((j : Int), l) xs = (addN xs (v.2, l), (((addN xs (v.2, l)).idxOf (v.2, l) : Nat) : Int)) := by
          rw [hsome]
          show (if v.1 = "thing" then _ else _) = _
          rw [if_neg ntg]
        refine ⟨_, rfl, _, rfl, a, _, _, _, rfl, rfl, ha, at_of (j := 1) rfl rfl, _, rfl, lt, kl, D, th, xs, bs, (v.2, l), rfl, N, hth, hl9, fun bs' H' k' N' => ?_⟩
        have := q bs' H' k' (by rw [e]; exact N')
        rw [e] at this
        exact this
end
end Lz

set_option Elab.async false
set_option linter.all false
set_option maxRecDepth 100000
set_option maxHeartbeats 8000000
namespace Lz
open PySem PySem.Spec PyProof.Rows L2 NKd
theorem seenR_again (v : Option Nv) (x : Nd) (xs : List Nd) : seenR v x (seenR v x xs).1 = ((seenR v x xs).1, (seenR v x xs).2) := by
  have ad : ∀ y : Nd, addN (addN xs y) y = addN xs y := fun y => by
    have my : y ∈ addN xs y := by
      unfold addN
      by_cases m : y ∈ xs
      · rw [if_pos m]; exact m
      · rw [if_neg m]; simp
    show (if y ∈ addN xs y then addN xs y else _) = _
    rw [if_pos my]
  cases v with
  | none =>
    show (addN (addN xs x) x, (((addN (addN xs x) x).idxOf x : Nat) : Int)) = (addN xs x, (((addN xs x).idxOf x : Nat) : Int))
    rw [ad]
  | some v =>
    unfold seenR
    by_cases h : v.1 = "thing"
    · simp only [if_pos h]
    · simp only [if_neg h, ad]
theorem seenR_len (v : Option Nv) (x : Nd) (xs : List Nd) : (seenR v x xs).1.length ≤ xs.length + 1 := by
  have ad : ∀ y : Nd, (addN xs y).length ≤ xs.length + 1 := fun y => by
    unfold addN
    by_cases m : y ∈ xs
    · rw [if_pos m]; omega
    · rw [if_neg m, List.length_append]; exact Nat.le_refl _
  cases v with
  | none => exact ad x
  | some v =>
    unfold seenR
    by_cases h : v.1 = "thing"
    · simp only [if_pos h]; omega
    · simp only [if_neg h]; exact ad _
theorem ints_shaped (l : List Int) : SeqAt.shaped (.list (l.map .int)) = true := by
  have h := ints_depth l
  unfold SeqAt.shaped
  simp only [PyData.depth, PyData.canLay0, ints_lay, h]
  rfl
theorem GdAt.lessS {K : PySem.W.Frag} {S S' : List Addr} {H : Hp} {ga fl dd : Addr} {xs : List V} {kd : List (Key × V)} {gs : List Fn} (h : GdAt K S H ga fl dd xs kd gs) (hS : ∀ x, x ∈ S' → x ∈ S) : GdAt K S' H ga fl dd xs kd gs :=
  ⟨h.ob, h.lst, DpSs.less hS _ _ h.dt, h.dr, h.ds, fun x mx q => h.av x mx (hS x q)⟩
/-- a program, its table, the law's own one -/
structure W16 (P : Program) (w : World) (K : PySem.W.Frag) (C CS : Addr) (H : Hp) (p a ga fl dd l r sp tl D lt kl KD : Addr) (gx : List V) (kd : List (Key × V)) (gs : List Fn) (xs : List Nd) (as bs : List Addr) : Prop where
  pen : PenAt H p a
  gd : GdAt K [p, tl, D, kl, KD] H ga fl dd gx kd gs
  spp : SpP K CS [p, tl, D, kl, KD] H sp gs
  sz : H l = some (.lst (intsV (szF gs)))
  nd : NdAt P w C H r sp tl D xs as
  lta : LtAt P w H lt kl KD false xs bs
  dis : [p, tl, D, kl, KD].Nodup
  im : ∀ x, x ∈ [a, l, r, lt] → ¬ x ∈ [p, tl, D, kl, KD]
section
variable {P : Program} {w : World} {K : PySem.W.Frag} {C CS : Addr} {H H' : Hp} {p a ga fl dd l r sp tl D lt kl KD : Addr} {gx : List V} {kd : List (Key × V)} {gs : List Fn} {xs : List Nd} {as bs : List Addr}
theorem W16.noT (h : W16 P w K C CS H p a ga fl dd l r sp tl D lt kl KD gx kd gs xs as bs) {T : List Addr} (hT : ∀ x, x ∈ T → x ∈ [p, tl, D, kl, KD]) : NoT T H := fun x mx o e => by
  obtain ⟨ns, t, q, h1, _⟩ := h.pen
  have e1 := h.nd.tl
  have e3 := h.nd.db
  have e5 := h.lta.kp.lst
  have e6 := h.lta.db
  have mx := hT x mx
  simp only [List.mem_cons, List.not_mem_nil, or_false] at mx
  rcases mx with rfl | rfl | rfl | rfl | rfl
  · rw [h1] at e; cases e; exact ⟨fun _ z => (nomatch z), fun _ _ z => (nomatch z)⟩
  · rw [e1] at e; cases e; exact ⟨fun _ z => (nomatch z), fun _ _ z => (nomatch z)⟩
  · rw [e3] at e; cases e; exact ⟨fun _ z => (nomatch z), fun _ _ z => (nomatch z)⟩
  · rw [e5] at e; cases e; exact ⟨fun _ z => (nomatch z), fun _ _ z => (nomatch z)⟩
  · rw [e6] at e; cases e; exact ⟨fun _ z => (nomatch z), fun _ _ z => (nomatch z)⟩
theorem noT_tup {S : List Addr} (n : NoT S H) : ∀ a ys, H a = some (.tup ys) → ¬ a ∈ S := fun a ys e m => (n a m _ e).1 ys rfl
theorem W16.ne (h : W16 P w K C CS H p a ga fl dd l r sp tl D lt kl KD gx kd gs xs as bs) : p ≠ tl ∧ p ≠ D ∧ p ≠ kl ∧ p ≠ KD ∧ tl ≠ D ∧ tl ≠ kl ∧ tl ≠ KD ∧ D ≠ kl ∧ D ≠ KD ∧ kl ≠ KD := by
  have ds := h.dis
  simp only [List.nodup_cons, List.mem_cons, List.not_mem_nil, or_false, not_or] at ds
  obtain ⟨⟨d1, d2, d3, d4⟩, ⟨d5, d6, d7⟩, ⟨d8, d9⟩, d10, _⟩ := ds
  exact ⟨d1, d2, d3, d4, d5, d6, d7, d8, d9, d10⟩
/-- all is kept but the pen -/
theorem W16.pen1 (h : W16 P w K C CS H p a ga fl dd l r sp tl D lt kl KD gx kd gs xs as bs) (k : Kp [p] H H') (pn : PenAt H' p a) : W16 P w K C CS H' p a ga fl dd l r sp tl D lt kl KD gx kd gs xs as bs := by
  have ks : Ks [p] H H' := fun b o e n => k b o e (fun m => absurd m n)
  have hs : ∀ x, x ∈ [p] → x ∈ [p, tl, D, kl, KD] := fun x m => by rw [List.mem_singleton.mp m]; exact List.mem_cons_self
  have nt := h.noT hs
  have im : ∀ x, x ∈ [a, l, r, lt] → ¬ x ∈ [p] := fun x m q => h.im x m (hs x q)
  obtain ⟨d1, d2, d3, d4, _⟩ := h.ne
  have np : ∀ {y : Addr}, p ≠ y → ¬ y ∈ [p] := fun n m => n (List.mem_singleton.mp m).symm
  exact ⟨pn, h.gd.keepU ks hs nt, h.spp.keepU ks hs nt, ks _ _ h.sz (im _ (by simp)), h.nd.keepS ks (im _ (by simp)) (np d1) (np d2) (noT_tup nt), h.lta.keepS ks (im _ (by simp)) (np d3) (np d4) (noT_tup nt), h.dis, h.im⟩
theorem W16.keep (h : W16 P w K C CS H p a ga fl dd l r sp tl D lt kl KD gx kd gs xs as bs) (k : Kp [] H H') : W16 P w K C CS H' p a ga fl dd l r sp tl D lt kl KD gx kd gs xs as bs := by
  refine h.pen1 (k.mono (fun _ m => nomatch m)) ?_
  obtain ⟨ns, t, q, h1, h2, h3⟩ := h.pen
  exact ⟨ns, t, q, k _ _ h1 (fun m => nomatch m), k _ _ h2 (fun m => nomatch m), h3⟩
theorem PenAt.ks {S : List Addr} (h : PenAt H p a) (k : Ks S H H') (h1 : ¬ p ∈ S) (h2 : ¬ a ∈ S) : PenAt H' p a := by
  obtain ⟨ns, t, q, e1, e2, h3⟩ := h
  exact ⟨ns, t, q, k _ _ e1 h1, k _ _ e2 h2, h3⟩
/-- both tables have told a node; the one ahead, then the other -/
theorem W16.two {H1 : Hp} {xs' : List Nd} {as' bs' : List Addr} (h : W16 P w K C CS H p a ga fl dd l r sp tl D lt kl KD gx kd gs xs as bs) (k1 : Ks [kl, KD] H H1) (L : LtAt P w H1 lt kl KD false xs' bs') (k2 : Ks [tl, D] H1 H') (N : NdAt P w C H' r sp tl D xs' as') : W16 P w K C CS H' p a ga fl dd l r sp tl D lt kl KD gx kd gs xs' as' bs' := by
  obtain ⟨d1, d2, d3, d4, d5, d6, d7, d8, d9, d10⟩ := h.ne
  have s1 : ∀ x, x ∈ [kl, KD] → x ∈ [p, tl, D, kl, KD] := fun x m => by
    simp only [List.mem_cons, List.not_mem_nil, or_false] at m ⊢
    rcases m with m | m <;> simp [m]
  have s2 : ∀ x, x ∈ [tl, D] → x ∈ [p, tl, D, kl, KD] := fun x m => by
    simp only [List.mem_cons, List.not_mem_nil, or_false] at m ⊢
    rcases m with m | m <;> simp [m]
  have n1 := h.noT s1
  have i1 : ∀ x, x ∈ [a, l, r, lt] → ¬ x ∈ [kl, KD] := fun x m q => h.im x m (s1 x q)
  have i2 : ∀ x, x ∈ [a, l, r, lt] → ¬ x ∈ [tl, D] := fun x m q => h.im x m (s2 x q)
  have two : ∀ {x y z : Addr}, x ≠ y → x ≠ z → ¬ x ∈ [y, z] := fun h1 h2 m => by
    simp only [List.mem_cons, List.not_mem_nil, or_false] at m
    rcases m with m | m
    · exact h1 m
    · exact h2 m
  have N1 := h.nd.keepS k1 (i1 _ (by simp)) (two d6 d7) (two d8 d9) (noT_tup n1)
  have pn1 := h.pen.ks k1 (two d3 d4) (i1 _ (by simp))
  have n2 : NoT [tl, D] H1 := fun x mx o e => by
    simp only [List.mem_cons, List.not_mem_nil, or_false] at mx
    rcases mx with rfl | rfl
    · rw [N1.tl] at e; cases e; exact ⟨fun _ z => (nomatch z), fun _ _ z => (nomatch z)⟩
    · rw [N1.db] at e; cases e; exact ⟨fun _ z => (nomatch z), fun _ _ z => (nomatch z)⟩
  exact ⟨pn1.ks k2 (two d1 d2) (i2 _ (by simp)), (h.gd.keepU k1 s1 n1).keepU k2 s2 n2, (h.spp.keepU k1 s1 n1).keepU k2 s2 n2, k2 _ _ (k1 _ _ h.sz (i1 _ (by simp))) (i2 _ (by simp)), N, L.keepS k2 (i2 _ (by simp)) (two d6.symm d8.symm) (two d7.symm d9.symm) (noT_tup n2), h.dis, h.im⟩
end
theorem if_mid {t : TT} {tb te : TS} {D : Ends} {σ : L2.St} {H : Hp} (J : L2.St → Hp → Prop) (hb : ∀ σ H, J σ H → tb D σ H) (ha : (∀ σ H, J σ H → tb D σ H) → tIfS t tb te D σ H) : tIfS t tb te D σ H := ha hb
def spLaw16 (K : PySem.W.Frag) : Sp := fun vs H Q _ => ∃ (s : Addr) (ns : List Int), vs = [.ref s] ∧ SqL K H s (ns.map V.int) ∧ ns.length ≤ 63 ∧ ∀ H', Q (.bl true) H'
theorem sqL_pen {K : PySem.W.Frag} {H H1 H' : Hp} {s p : Addr} {xs : List V} (h : SqL K H s xs) (hp : H p = none) (k1 : Kp [] H H1) (k : Kp [p] H1 H') : SqL K H' s xs := by
  have ne : ∀ {o}, H s = some o → ¬ s ∈ [p] := fun e m => by
    rw [List.mem_singleton.mp m, hp] at e
    cases e
  rcases h with (h | ⟨o, h⟩) | h
  · exact .inl (.inl (k.lst (k1.lst h (fun m => nomatch m)) (ne h)))
  · exact .inl (.inr ⟨o, k _ _ (k1 _ _ h (fun m => nomatch m)) (fun m => absurd m (ne h))⟩)
  · exact .inr h
section
variable {P : Program} {w : World} {K : PySem.W.Frag} {mg : Str → Option Value} {base : Heap} {f C CS : Addr} {fd : FuncData}
abbrev sLaw : Stmt := topS 34
theorem scLaw : FnScope ["_law_script", "_law_pen_here", "_law_program_here", "_law_ground_here", "_law_sizes", "_law_nodes", "_law_table", "_law_k", "_law_names_here", "_law_place", "_law_things", "_law_due", "_law_found", "_law_j", "_law_at"] ["_law_script"] (defScope sLaw) := ⟨rfl, rfl, rfl, by decide +kernel, rfl, by decide +kernel, by decide +kernel⟩
theorem ok_law {j i0 i1 i2 : Nat} (hj : 13 ≤ j) (hi0 : i0 ≤ j) (hi1 : i0 + 1 ≤ j) (hi2 : i1 ≤ j) (hi3 : i2 ≤ j) (F : Fun K "law" "law" sLaw f fd) (B : Bt mg) (mbool : mg "bool" = none) (CLPen : C8.Cal P w K mg base 1 "_law_pen" (spPen K) []) (CLDraw : C8.Cal P w K mg base 1 "_law_draw" (spDraw K) []) (CLProgram : C8.Cal P w K mg base j "_law_program" (spProgram K) []) (CNodesMake : C8.Mak P w K mg base i0 "Nodes" C (spNodesX P w K C CS) []) (CLRows : C8.Cal P w K mg base i1 "_law_rows" (spRows15 K) []) (CLGrounds : C8.Cal P w K mg base i2 "_law_grounds" (spGrounds K) []) (CLSeen : C8.Cal P w K mg base 2 "_law_seen" (spLSeen P w K) []) (CNSeen : C8.Met P w K mg base 2 C "seen" (spSeen P w K C CS) []) (CNMany : C8.Met P w K mg base 1 C "many" (spManyN P w C) []) (CNTold : C8.Met P w K mg base 1 C "told" (spTold P w C) []) : FnOk P w K mg base CX0 (j + 1) f fd ["_law_script"] (spLaw16 K) := by
  have ml := B.len
  have mis := B.isinstance
  have mtup := B.tuple
  have mmax := B.max
  have mmin := B.min
  have mrange := B.range
  refine F.ok scLaw (fun vs H Q E h => ?_) (fun cdv A outer s H vs Q E hr h => ?_)
  · obtain ⟨s0, ns, rfl, _⟩ := h
    rfl
  have hu64 := hr.units
  obtain ⟨s0, ns, rfl, hs0, hns, q⟩ := h
  refine ⟨_, (pss_cons (ps_set (i := 1) scLaw.nd rfl (.inr rfl) (C8.pe_c CLPen hr (by first | decide | omega) (by rfl) (pa_cons (pv 0) pa_nil)))
    (pss_cons (ps_set (i := 2) scLaw.nd rfl (.inl rfl) (C8.pe_c CLProgram hr (by first | decide | omega) (by rfl) (pa_cons (pv 1) pa_nil)))
    (pss_cons (ps_set (i := 3) scLaw.nd rfl (.inr rfl) (C8.pe_c CLGrounds hr (by first | decide | omega) (by rfl) (pa_cons (pv 2) pa_nil)))
    (pss_cons (ps_set (i := 4) scLaw.nd rfl (.inl rfl) (C8.pe_c CLRows hr (by first | decide | omega) (by rfl) (pa_cons (pv 2) pa_nil)))
    (pss_cons (ps_set (i := 5) scLaw.nd rfl (.inr rfl) (C8.pe_mk CNodesMake hr (by first | decide | omega) (by rfl) (pa_cons (pv 2) pa_nil)))
    (pss_cons (ps_set (i := 6) scLaw.nd rfl (.inr rfl) (pe_lst (pa_cons (pe_lst pa_nil) (pa_cons NKd.pe_newN (pa_cons pe_bl pa_nil)))))
    (pss_cons (ps_for PassesOwn.never rfl (pi_range1 (by rfl) mrange (pa_cons (pe_callB (call_max2 rfl) (by rfl) mmax (by decide +kernel) (pa_cons pe_int (pa_cons (pe_callB (call_min2 rfl) (by rfl) mmin (by decide +kernel) (pa_cons pe_int (pa_cons (pe_callB (call_lenK (K := K) rfl) (by rfl) ml PySem.boot_len (pa_cons (pv 0) pa_nil)) pa_nil))) pa_nil))) pa_nil)) (pg_name (i := 7) scLaw.nd rfl (.inl rfl)) (pss_cons (ps_setLc (i := 8) (own := [("_law_place", 9)]) rfl scLaw.nd rfl rfl (sw_true rfl rfl rfl (by decide +kernel)) (pi_range1 (by rfl) mrange (pa_cons (pe_callB (call_lenK (K := K) rfl) (by rfl) ml PySem.boot_len (pa_cons (pv 4) pa_nil)) pa_nil)) (blkOk_by (N := ["_law_script", "_law_pen_here", "_law_program_here", "_law_ground_here", "_law_sizes", "_law_nodes", "_law_table", "_law_k", "_law_names_here", "_law_place", "_law_things", "_law_due", "_law_found", "_law_j", "_law_at"]) (sc := defScope sLaw) (by decide +kernel)) (fun _ _ _ _ _ => (pg_name (i := 9) scLaw.nd rfl (.inl rfl))) (fun _ _ _ _ _ => (pts_one (pt_cmpR op_eq (pe_ix (ix_tupK (K := K) rfl) (pe_ix (ix_tupK (K := K) rfl) (pe_ix (ix_listK (K := K) rfl) (pe_ix (ix_listK (K := K) rfl) (pv 3) pe_int (fun _ _ => rfl)) (pv 9) (fun _ _ => rfl)) pe_int (fun _ _ => rfl)) pe_int (fun _ _ => rfl)) pe_str (nomark _)))) (fun _ _ _ _ _ => (pv 9)))
    (pss_cons (ps_set (i := 9) scLaw.nd rfl (.inl rfl) (C8.pe_c CLDraw hr (by first | decide | omega) (by rfl) (pa_cons (pv 1) (pa_cons (pe_callB (call_lenK (K := K) rfl) (by rfl) ml PySem.boot_len (pa_cons (pv 4) pa_nil)) pa_nil))))
    (pss_cons (ps_if (PW.pt (pw_and (pt_cmpR (op_neDK (K := K) rfl hu64) (pv 8) (pe_lst pa_nil) (nomark _)) (pw_and1 (pt_cmpR op_eq (C8.pe_c CLDraw hr (by first | decide | omega) (by rfl) (pa_cons (pv 1) (pa_cons pe_int pa_nil))) pe_int (nomark _))))) (pss_one (ps_set (i := 9) scLaw.nd rfl (.inl rfl) (pe_ix (ix_listK (K := K) rfl) (pv 8) (C8.pe_c CLDraw hr (by first | decide | omega) (by rfl) (pa_cons (pv 1) (pa_cons (pe_callB (call_lenK (K := K) rfl) (by rfl) ml PySem.boot_len (pa_cons (pv 8) pa_nil)) pa_nil))) (fun _ _ => rfl)))) pss_nil)
    (pss_one (ps_if (PW.pt (pw_or (pt_cmpR op_eq (pe_ix (ix_listK (K := K) rfl) (pv 4) (pv 9) (fun _ _ => rfl)) pe_int (nomark _)) (pw_or1 (pt_cmpR (op_neDK (K := K) rfl hu64) (pe_ix (ix_listK (K := K) rfl) (pv 6) pe_int (fun _ _ => rfl)) (pe_lst pa_nil) (nomark _))))) (pss_cons (ps_set (i := 10) scLaw.nd rfl (.inl rfl) (pe_callTy (call_tupleK (K := K) rfl) (by rfl) mtup (by decide +kernel) (pa_cons (pe_lc (own := [("_law_j", 13)]) rfl scLaw.nd (pi_range1 (by rfl) mrange (pa_cons (pe_ix (ix_listK (K := K) rfl) (pv 4) (pv 9) (fun _ _ => rfl)) pa_nil)) (blkOk_by (N := ["_law_script", "_law_pen_here", "_law_program_here", "_law_ground_here", "_law_sizes", "_law_nodes", "_law_table", "_law_k", "_law_names_here", "_law_place", "_law_things", "_law_due", "_law_found", "_law_j", "_law_at"]) (sc := defScope sLaw) (by decide +kernel)) (fun _ _ _ _ _ => (pg_name (i := 13) scLaw.nd rfl (.inl rfl))) (fun _ _ _ _ _ => pts_nil) (fun _ _ _ _ _ => (C8.pe_c CLDraw hr (by first | decide | omega) (by rfl) (pa_cons (pv 1) (pa_cons (pe_callB (call_lenK (K := K) rfl) (by rfl) ml PySem.boot_len (pa_cons (pe_ix (ix_listK (K := K) rfl) (pv 6) pe_int (fun _ _ => rfl)) pa_nil)) pa_nil))))) pa_nil)))
    (pss_cons (ps_set (i := 11) scLaw.nd rfl (.inl rfl) (C8.pe_c CLSeen hr (by first | decide | omega) (by rfl) (pa_cons (pv 3) (pa_cons (pv 6) (pa_cons (pv 9) (pa_cons (pv 10) pa_nil))))))
    (pss_cons (ps_set (i := 12) scLaw.nd rfl (.inl rfl) (C8.pe_mt CNSeen hr (by first | decide | omega) (pv 5) (pa_cons (pv 9) (pa_cons (pv 10) pa_nil))))
    (pss_cons (ps_if (PW.pt (pw_or (pt_truthK (K := K) rfl (pe_callB (call_isK (K := K) rfl) (by rfl) mis (by decide +kernel) (pa_cons (pv 12) (pa_cons (pe_bltn (v := .ty "bool") (by rfl) mbool (by decide +kernel) rfl) pa_nil))) (fun _ => rfl)) (pw_or (pt_cmpR op_ne (pv 12) (pv 11) (nomark _)) (pw_or1 (pt_cmpR op_ne (C8.pe_mt CNSeen hr (by first | decide | omega) (pv 5) (pa_cons (pv 9) (pa_cons (pv 10) pa_nil))) (pv 11) (nomark _)))))) (pss_one (ps_ret pe_bl)) pss_nil)
    (pss_one (ps_if (PW.pt (pw_or (pt_cmpR op_ne (C8.pe_mt0 CNMany hr (by first | decide | omega) (pv 5)) (pe_callB (call_lenK (K := K) rfl) (by rfl) ml PySem.boot_len (pa_cons (pe_ix (ix_listK (K := K) rfl) (pv 6) pe_int (fun _ _ => rfl)) pa_nil)) (nomark _)) (pw_or1 (pt_cmpR (op_neDK (K := K) rfl hu64) (pe_lc (own := [("_law_at", 14)]) rfl scLaw.nd (pi_range1 (by rfl) mrange (pa_cons (C8.pe_mt0 CNMany hr (by first | decide | omega) (pv 5)) pa_nil)) (blkOk_by (N := ["_law_script", "_law_pen_here", "_law_program_here", "_law_ground_here", "_law_sizes", "_law_nodes", "_law_table", "_law_k", "_law_names_here", "_law_place", "_law_things", "_law_due", "_law_found", "_law_j", "_law_at"]) (sc := defScope sLaw) (by decide +kernel)) (fun _ _ _ _ _ => (pg_name (i := 14) scLaw.nd rfl (.inl rfl))) (fun _ _ _ _ _ => pts_nil) (fun _ _ _ _ _ => (C8.pe_mt CNTold hr (by first | decide | omega) (pv 5) (pa_cons (pv 14) pa_nil)))) (pe_ix (ix_listK (K := K) rfl) (pv 6) pe_int (fun _ _ => rfl)) (nomark _))))) (pss_one (ps_ret pe_bl)) pss_nil)))))) pss_nil))))))
    (pss_one (ps_ret pe_bl))))))))), ?_⟩
  refine ⟨_, rfl, s0, ns, rfl, hs0, hns, fun p a H1 k1 hp ha pn1 => ?_⟩
  have k1' : Kp [] H H1 := Kp.same k1
  refine ⟨_, rfl, p, a, rfl, pn1, fun v fs d H2 k2 pn2 hd2 hprog => ?_⟩
  have hs2 := sqL_pen hs0 hp k1' k2
  have hfit := hprog.fits
  generalize hgs : fnsOf fs d = gs
  have hp2 : ∃ o, H2 p = some o := by
    obtain ⟨_, _, _, e, _⟩ := pn2
    exact ⟨_, e⟩
  refine ⟨_, rfl, v, fs, d, [p], rfl, hd2, hprog, fun x mx => by rw [List.mem_singleton.mp mx]; exact hp2, fun ga fl dd gx kd H3 k3 G3 => ?_⟩
  rw [hgs] at G3
  have pn3 : PenAt H3 p a := pn2.keep k3 (fun m => nomatch m) (fun m => nomatch m)
  have hd3 := Dp.keep k3 _ _ (pr_fz _ _) hd2
  refine ⟨_, rfl, v, fs, d, rfl, hd3, hprog, fun l H4 k4 hl0 hl4 => ?_⟩
  rw [hgs] at hl4
  have pn4 : PenAt H4 p a := pn3.keep k4 (fun m => nomatch m) (fun m => nomatch m)
  have hd4 := Dp.keep k4 _ _ (pr_fz _ _) hd3
  have G4 := G3.keep k4
  have hs4 := (k3.trans k4).sqL hs2 (fun m => nomatch m)
  refine ⟨_, rfl, fun r dx h1 h2 hne => ?_⟩
  have kk : Kp [] H4 (upd (upd H4 dx (.own r)) r (.ins C dx [])) := (Kp.new h2).mut h1
  have hob : (upd (upd H4 dx (.own r)) r (.ins C dx [])) r = some (.ins C dx []) := upd_same
  have G5 := (G4.moreS h1).keep kk
  have pn5 : PenAt (upd (upd H4 dx (.own r)) r (.ins C dx [])) p a := pn4.keep kk (fun m => nomatch m) (fun m => nomatch m)
  have hl5 := kk.lst hl4 (fun m => nomatch m)
  have hd5 := Dp.keep kk _ _ (pr_fz _ _) hd4
  have hs5 := kk.sqL hs4 (fun m => nomatch m)
  generalize upd (upd H4 dx (.own r)) r (.ins C dx []) = H5 at hob G5 pn5 hl5 hd5 hs5 ⊢
  have npr : p ≠ r := by
    obtain ⟨_, _, _, e, _⟩ := pn5
    exact ne_of e hob (fun e => nomatch e)
  refine ⟨r, dx, v, fs, d, [p], rfl, hob, hd5, hprog, fun x mx => ?_, fun sp tl D H6 k6 ztl zD N6 S6 => ⟨rfl, ?_⟩⟩
  · rw [List.mem_singleton.mp mx]
    obtain ⟨_, _, _, e, _⟩ := pn5
    exact ⟨npr, _, e⟩
  rw [hgs] at S6
  have ks6 : Ks [r] H5 H6 := fun b o e n => k6 b o e (fun q => n (by rw [q]; exact List.mem_cons_self))
  have nt6 : NoT [r] H5 := fun x mx o e => by
    rw [List.mem_singleton.mp mx, hob] at e
    cases e
    exact ⟨fun _ z => (nomatch z), fun _ _ z => (nomatch z)⟩
  have G6 := ((G5.moreS ztl).moreS zD).keepU ks6 (fun x mx => by rw [List.mem_singleton.mp mx]; simp) nt6
  have n1r : ∀ {x : Addr}, x ≠ r → ¬ x ∈ [r] := fun h m => h (List.mem_singleton.mp m)
  have nar : a ≠ r := by
    obtain ⟨_, _, _, _, e, _⟩ := pn5
    exact ne_of e hob (fun e => nomatch e)
  have nlr : l ≠ r := ne_of hl5 hob (fun e => nomatch e)
  have pn6 := pn5.ks ks6 (n1r npr) (n1r nar)
  have hl6 := ks6 _ _ hl5 (n1r nlr)
  have hs6 : SqL K H6 s0 (ns.map V.int) := by
    rcases hs5 with (h | ⟨o, h⟩) | h
    · exact .inl (.inl (ks6 _ _ h (n1r (ne_of h hob (fun e => nomatch e)))))
    · exact .inl (.inr ⟨o, ks6 _ _ h (n1r (ne_of h hob (fun e => nomatch e)))⟩)
    · exact .inr h
  have npt : p ≠ tl := by
    obtain ⟨_, _, _, e, _⟩ := pn5
    exact ne_of_none e ztl
  have npD : p ≠ D := by
    obtain ⟨_, _, _, e, _⟩ := pn5
    exact ne_of_none e zD
  have nat : a ≠ tl ∧ a ≠ D := by
    obtain ⟨_, _, _, _, e, _⟩ := pn5
    exact ⟨ne_of_none e ztl, ne_of_none e zD⟩
  have nlt : l ≠ tl ∧ l ≠ D := ⟨ne_of_none hl5 ztl, ne_of_none hl5 zD⟩
  have nrt : r ≠ tl ∧ r ≠ D := ⟨ne_of_none hob ztl, ne_of_none hob zD⟩
  have ntD : tl ≠ D := ne_of N6.tl N6.db (fun e => by cases e)
  refine seq_mid (fun σ H' => σ = [some (.ref s0), some (.ref p), some v, some (.ref ga), some (.ref l), some (.ref r), none, none, none, none, none, none, none, none, none] ∧ H' = H6) ?_ (fun nx2 => nx2 _ _ ⟨rfl, rfl⟩)
  rintro σ H6 ⟨rfl, rfl⟩
  refine seq_mid (fun σ H' => ∃ (lt kl KD : Addr), σ = [some (.ref s0), some (.ref p), some v, some (.ref ga), some (.ref l), some (.ref r), some (.ref lt), none, none, none, none, none, none, none, none] ∧ W16 P w K C CS H' p a ga fl dd l r sp tl D lt kl KD gx kd gs [] [] [] ∧ SqL K H' s0 (ns.map V.int)) ?_ (fun nx => ?_)
  · rintro σ H9 ⟨lt, kl, KD, rfl, W, hs9⟩
    have hmx : ∀ z : Int, (if (if z < 30 then z else 30) > 6 then (if z < 30 then z else 30) else 6) ≤ 30 ∧ 6 ≤ (if (if z < 30 then z else 30) > 6 then (if z < 30 then z else 30) else 6) := fun z => by
      by_cases h : z < 30
      · rw [if_pos h]
        by_cases h2 : z > 6
        · rw [if_pos h2]; omega
        · rw [if_neg h2]; omega
      · rw [if_neg h]; decide
    have h9 : gs.length ≤ 9 := by
      rw [← hgs]
      show (fs ++ [askedFn d]).length ≤ 9
      rw [List.length_append]
      have := hfit.len
      show fs.length + 1 ≤ 9
      omega
    have hszl := szF_len gs
    have sz2 : (szF gs).length ≤ 540 := by
      have := szF_leN gs (fun g m => (hfit.bd g (by rw [hgs]; exact m)).many)
      omega
    have sz1 : 1 ≤ (szF gs).length := by
      rw [← hgs]
      show 1 ≤ (szF (fs ++ [askedFn d])).length
      unfold szF
      rw [List.flatMap_append, List.length_append]
      show 1 ≤ _ + (List.replicate d.many _ ++ []).length
      rw [List.append_nil, List.length_replicate]
      have := many_pos d
      omega
    have sz4 : ∀ n, n ∈ szF gs → n ≤ 4 := fun n m => by
      obtain ⟨g, mg, hg⟩ := List.mem_flatMap.mp m
      rw [List.eq_of_mem_replicate hg]
      exact hfit.few g (by rw [hgs]; exact mg)
    have hGl := allG_len 0 gs
    have hpl : ∀ (j : Nat), j < (szF gs).length → ∃ gr k, (allG 0 gs)[j]? = some gr ∧ (szF gs)[j]? = some k ∧ Pl gr k := fun j hj => by
      have hjl : j < (allG 0 gs).length := by rw [hGl, ← hszl]; exact hj
      obtain ⟨k, e1, e2⟩ := allG_pl 0 gs (fun g m => ⟨hfit.bd g (by rw [hgs]; exact m), hfit.ft g (by rw [hgs]; exact m)⟩) j _ (List.getElem?_eq_getElem hjl)
      exact ⟨_, k, List.getElem?_eq_getElem hjl, e1, e2⟩
    have lsz : (intsV (szF gs)).length = (szF gs).length := List.length_map _
    refine ⟨_, rfl, s0, _, rfl, .inl hs9, _, _, rfl, _, _, rfl, _, rfl, by have := hmx ((ns.map V.int).length : Nat); omega, by have := hmx ((ns.map V.int).length : Nat); omega, ?_⟩
    obtain ⟨m30, _⟩ := hmx ((ns.map V.int).length : Nat)
    generalize (if (if (((ns.map V.int).length : Nat) : Int) < 30 then (((ns.map V.int).length : Nat) : Int) else 30) > 6 then (if (((ns.map V.int).length : Nat) : Int) < 30 then (((ns.map V.int).length : Nat) : Int) else 30) else 6) = mz at m30 ⊢
    refine for_range (lo := 0) (n := mz.toNat) (fun c σ H' => ∃ (v7 v8 v9 v10 v11 v12 v13 v14 : Option V) (xs : List Nd) (as bs : List Addr), σ = [some (.ref s0), some (.ref p), some v, some (.ref ga), some (.ref l), some (.ref r), some (.ref lt), v7, v8, v9, v10, v11, v12, v13, v14] ∧ W16 P w K C CS H' p a ga fl dd l r sp tl D lt kl KD gx kd gs xs as bs ∧ xs.length ≤ c)
      ⟨none, none, none, none, none, none, none, none, [], [], [], rfl, W, Nat.zero_le _⟩ ?_ ?_
    · rintro c σ H7 hc ⟨v7, v8, v9, v10, v11, v12, v13, v14, xs, as, bs, rfl, W7, hxl⟩
      refine ⟨_, rfl, l, _, rfl, .inl (SqL.of W7.sz), _, rfl, by rw [lsz]; omega, by rw [lsz]; omega, fun DN hDN => ?_⟩
      rw [lsz]
      have hDp : DN ≠ p := by
        obtain ⟨_, _, _, e, _⟩ := W7.pen
        exact (ne_of_none e hDN).symm
      refine lc_range (lo := 0) (n := (((szF gs).length : Nat) : Int).toNat) (fun i H' => Kp [] H7 H' ∧ ∃ ws : List Int, H' DN = some (.lst (ws.map V.int)) ∧ ws.length ≤ i ∧ ∀ z, z ∈ ws → ∃ n : Nat, z = n ∧ n < i)
        ⟨Kp.new hDN, [], upd_same, Nat.le_refl _, fun z m => nomatch m⟩ ?_ ?_
      · rintro i H8 hi ⟨k8, ws, hD8, hwl, hws⟩
        have W8 := W7.keep k8
        have hi2 : i < (szF gs).length := by omega
        obtain ⟨gr, k, e1, e2, _⟩ := hpl i hi2
        refine ⟨rfl, ?_⟩
        obtain ⟨u, hu, hdu⟩ := (DpSs.dp _ _ W8.gd.dt).get (i := i) (d := grD gr) (by rw [List.getElem?_map, e1]; rfl)
        obtain ⟨au, us, rfl, hau, hus⟩ := Dp.tup_of (ds := [gr.1.data, .list (gr.2.1.map .int), nvD gr.2.2]) hdu
        obtain ⟨u1, u2, u3, rfl, hu1⟩ : ∃ u1 u2 u3, us = [u1, u2, u3] ∧ Dp K H8 u1 gr.1.data := by
          cases hus with
          | cons h1 h2 =>
            cases h2 with
            | cons h3 h4 =>
              cases h4 with
              | cons h5 h6 =>
                cases h6
                exact ⟨_, _, _, rfl, h1⟩
        obtain ⟨ap, ups, rfl, hap, _⟩ := hd_at hu1
        refine ⟨_, rfl, ga, _, _, _, rfl, rfl, SqL.of W8.gd.ob, at_of (j := 0) rfl rfl, _, rfl, fl, _, _, _, rfl, rfl, SqL.of W8.gd.lst, at_of (j := i) (by omega) hu, au, _, _, _, rfl, rfl, hau, at_of (j := 0) rfl rfl, ap, _, _, _, rfl, rfl, hap, at_of (j := 0) rfl rfl, rfl, _, rfl, ?_⟩
        refine ite2 (fun _ => ?_) (fun _ => ⟨k8, ws, hD8, by omega, fun z m => by
          obtain ⟨n, e, h⟩ := hws z m
          exact ⟨n, e, by omega⟩⟩)
        refine ⟨_, rfl, _, hD8, by rw [List.length_map]; exact small1000 (by omega), k8.mut hDN, ws ++ [(0 : Int) + (i : Nat)], by rw [upd_same, List.map_append]; rfl, by rw [List.length_append]; show ws.length + 1 ≤ _; omega, fun z m => ?_⟩
        rcases List.mem_append.mp m with m | m
        · obtain ⟨n, e, h⟩ := hws z m
          exact ⟨n, e, by omega⟩
        · rw [List.mem_singleton.mp m]
          exact ⟨i, by omega, by omega⟩
      rintro H8 ⟨k8, ws, hD8, hwl, hws⟩
      have W8 := W7.keep k8
      have hws2 : ∀ z, z ∈ ws → ∃ n : Nat, z = n ∧ n < (szF gs).length := fun z m => by
        obtain ⟨n, e, h⟩ := hws z m
        exact ⟨n, e, by omega⟩
      refine ⟨_, rfl, _, rfl, l, _, rfl, .inl (SqL.of W8.sz), p, a, _, rfl, W8.pen, by rw [lsz]; omega, by rw [lsz]; omega, fun z2 H9 k9 pn9 hz20 hz22 => ?_⟩
      rw [lsz] at hz22
      obtain ⟨pl, rfl⟩ : ∃ i : Nat, z2 = i := ⟨z2.toNat, by omega⟩
      have hplt : pl < (szF gs).length := by omega
      have W9 := W8.pen1 k9 pn9
      have hD9 := k9.lst hD8 (fun m => hDp (List.mem_singleton.mp m))
      refine seq_mid (fun σ H' => ∃ (v7 v10 v11 v12 v13 v14 : Option V), σ = [some (.ref s0), some (.ref p), some v, some (.ref ga), some (.ref l), some (.ref r), some (.ref lt), v7, some (.ref DN), some (.int (pl : Nat)), v10, v11, v12, v13, v14] ∧ H' = H9) ?_ (fun nx2 => nx2 _ _ ⟨_, _, _, _, _, _, rfl, rfl⟩)
      rintro σ H9 ⟨v7, v10, v11, v12, v13, v14, rfl, rfl⟩
      refine seq_mid (fun σ H' => ∃ (v7 v8 v10 v11 v12 v13 v14 : Option V) (pl : Nat), σ = [some (.ref s0), some (.ref p), some v, some (.ref ga), some (.ref l), some (.ref r), some (.ref lt), v7, v8, some (.int (pl : Nat)), v10, v11, v12, v13, v14] ∧ W16 P w K C CS H' p a ga fl dd l r sp tl D lt kl KD gx kd gs xs as bs ∧ pl < (szF gs).length) ?_ (fun nx => ?_)
      · rintro σ H10 ⟨v7, v8, v10, v11, v12, v13, v14, pl, rfl, W10, hpl2⟩
        obtain ⟨gr, k, e1, e2, hPl⟩ := hpl pl hpl2
        have hk4 := sz4 k (List.mem_of_getElem? e2)
        have gk : (intsV (szF gs))[pl]? = some (.int (k : Nat)) := by
          unfold intsV
          rw [List.getElem?_map, e2]
          rfl
        have hlb : (bs.map V.ref).length = xs.length := by rw [List.length_map, W10.lta.kp.len]
        refine if_mid (fun σ H' => ∃ (v7 v8 v10 v11 v12 v13 v14 : Option V), σ = [some (.ref s0), some (.ref p), some v, some (.ref ga), some (.ref l), some (.ref r), some (.ref lt), v7, v8, some (.int (pl : Nat)), v10, v11, v12, v13, v14] ∧ W16 P w K C CS H' p a ga fl dd l r sp tl D lt kl KD gx kd gs xs as bs ∧ (k = 0 ∨ 1 ≤ xs.length)) ?_ (fun bd => ?_)
        · rintro σ H11 ⟨v7, v8, v10, v11, v12, v13, v14, rfl, W11, hk0⟩
          refine ⟨_, rfl, _, rfl, l, _, _, _, rfl, rfl, SqL.of W11.sz, at_of (j := pl) rfl gk, _, rfl, by omega, by omega, fun DD hDD => ?_⟩
          have nDp : DD ≠ p := by
            obtain ⟨_, _, _, e, _⟩ := W11.pen
            exact (ne_of_none e hDD).symm
          have nDa : DD ≠ a := by
            obtain ⟨_, _, _, _, e, _⟩ := W11.pen
            exact (ne_of_none e hDD).symm
          have kD0 : Kp [p] H11 (upd H11 DD (.lst [])) := Kp.new hDD
          have pD0 : PenAt (upd H11 DD (.lst [])) p a := (W11.keep (Kp.new (S := []) hDD)).pen
          refine lc_range (lo := 0) (n := (((k : Nat) : Int)).toNat) (fun m H' => Kp [p] H11 H' ∧ PenAt H' p a ∧ ∃ ws : List Int, H' DD = some (.lst (ws.map V.int)) ∧ ws.length = m)
            ⟨kD0, pD0, [], upd_same, rfl⟩ ?_ ?_
          · rintro m H14 hm ⟨k14, pn14, ws, hD14, hwl⟩
            refine ⟨rfl, ?_⟩
            have W14 := W11.pen1 k14 pn14
            refine ⟨_, rfl, _, rfl, lt, _, _, _, rfl, rfl, SqL.of W14.lta.ob, at_of (j := 0) rfl rfl, kl, _, rfl, .inl (SqL.of W14.lta.kp.lst), p, a, _, rfl, W14.pen, by rw [hlb]; omega, by rw [hlb]; omega, fun z2 H15 k15 pn15 hy0 hy1 => ?_⟩
            have hD15 := k15.lst hD14 (fun m => nDp (List.mem_singleton.mp m))
            refine ⟨_, hD15, by rw [List.length_map, hwl]; exact small1000 (by omega), (k14.trans k15).mut hDD, pn15.mut nDp nDa, ws ++ [z2], by rw [upd_same, List.map_append]; rfl, by rw [List.length_append, hwl]; rfl⟩
          · rintro H14 ⟨k14, pn14, ws, hD14, hwl⟩
            have W14 := W11.pen1 k14 pn14
            rw [Int.toNat_natCast] at hwl
            refine ⟨DD, _, rfl, .inl ⟨SqL.of hD14, fun th hth => ?_⟩⟩
            have ka : Kp [] H14 (upd H14 th (.tup (ws.map V.int))) := Kp.new hth
            have hta : (upd H14 th (.tup (ws.map V.int))) th = some (.tup (ws.map V.int)) := upd_same
            have W15 := W14.keep ka
            generalize upd H14 th (.tup (ws.map V.int)) = H15 at ka hta W15 ⊢
            refine ⟨_, rfl, _, rfl, _, rfl, _, rfl, ga, fl, dd, lt, kl, KD, th, _, gs, gx, kd, xs, bs, pl, ws, gr, k, rfl, W15.lta, W15.gd, hta, by omega, e1, hPl, hwl, fun bs' H16 k16 L16 => ?_⟩
            have s1 : ∀ x, x ∈ [kl, KD] → x ∈ [p, tl, D, kl, KD] := fun x m => by
              simp only [List.mem_cons, List.not_mem_nil, or_false] at m ⊢
              rcases m with m | m <;> simp [m]
            have s2 : ∀ x, x ∈ [tl, D] → x ∈ [p, tl, D, kl, KD] := fun x m => by
              simp only [List.mem_cons, List.not_mem_nil, or_false] at m ⊢
              rcases m with m | m <;> simp [m]
            have n1 := W15.noT s1
            have i1 : ∀ x, x ∈ [a, l, r, lt] → ¬ x ∈ [kl, KD] := fun x m q => W15.im x m (s1 x q)
            obtain ⟨d1, d2, d3, d4, d5, d6, d7, d8, d9, d10⟩ := W15.ne
            have two : ∀ {x y z : Addr}, x ≠ y → x ≠ z → ¬ x ∈ [y, z] := fun h1 h2 m => by
              simp only [List.mem_cons, List.not_mem_nil, or_false] at m
              rcases m with m | m
              · exact h1 m
              · exact h2 m
            have N16 := W15.nd.keepS k16 (i1 _ (by simp)) (two d6 d7) (two d8 d9) (noT_tup n1)
            have S16 := W15.spp.keepU k16 s1 n1
            have hta16 := k16 _ _ hta (noT_tup n1 _ _ hta)
            obtain ⟨dx16, ho16⟩ := N16.ob
            refine ⟨_, rfl, r, dx16, _, rfl, ho16, nf_no _ _ _ (by decide +kernel) (by decide +kernel) (by decide +kernel), _, rfl, _, rfl, r, sp, tl, D, th, _, gs, xs, as, pl, ws, gr, k, rfl, N16, S16, hta16, by omega, e1, hPl, hwl, fun as' H17 k17 N17 => ?_⟩
            have W17 := W15.two k16 L16 k17 N17
            have n2 : NoT [tl, D] H16 := fun x mx o e => by
              simp only [List.mem_cons, List.not_mem_nil, or_false] at mx
              rcases mx with rfl | rfl
              · rw [N16.tl] at e; cases e; exact ⟨fun _ z => (nomatch z), fun _ _ z => (nomatch z)⟩
              · rw [N16.db] at e; cases e; exact ⟨fun _ z => (nomatch z), fun _ _ z => (nomatch z)⟩
            have hta17 := k17 _ _ hta16 (noT_tup n2 _ _ hta16)
            have hlen := seenR_len gr.2.2 ((pl : Int), ws) xs
            have hag := seenR_again gr.2.2 ((pl : Int), ws) xs
            generalize hxs' : (seenR gr.2.2 ((pl : Int), ws) xs).1 = xs' at W17 hlen hag N17 L16
            generalize hnum : (seenR gr.2.2 ((pl : Int), ws) xs).2 = num at hag ⊢
            refine seq_mid (fun σ H' => ∃ (v7 v8 v13 v14 : Option V), σ = [some (.ref s0), some (.ref p), some v, some (.ref ga), some (.ref l), some (.ref r), some (.ref lt), v7, v8, some (.int (pl : Nat)), some (.ref th), some (.int num), some (.int num), v13, v14] ∧ H' = H17) ?_ (fun nx2 => nx2 _ _ ⟨_, _, _, _, rfl, rfl⟩)
            rintro σ H17 ⟨v7, v8, v13, v14, rfl, rfl⟩
            refine seq_mid (fun σ H' => ∃ (v7 v8 v13 v14 : Option V) (as2 : List Addr), σ = [some (.ref s0), some (.ref p), some v, some (.ref ga), some (.ref l), some (.ref r), some (.ref lt), v7, v8, some (.int (pl : Nat)), some (.ref th), some (.int num), some (.int num), v13, v14] ∧ W16 P w K C CS H' p a ga fl dd l r sp tl D lt kl KD gx kd gs xs' as2 bs') ?_ (fun nx3 => ?_)
            · rintro σ H18 ⟨v7, v8, v13, v14, as2, rfl, W18⟩
              have hlb18 : (bs'.map V.ref).length = xs'.length := by rw [List.length_map, W18.lta.kp.len]
              obtain ⟨dx18, ho18⟩ := W18.nd.ob
              refine ⟨_, rfl, r, dx18, _, rfl, ho18, nf_no _ _ _ (by decide +kernel) (by decide +kernel) (by decide +kernel), r, sp, tl, D, xs', as2, rfl, W18.nd, ?_⟩
              refine ⟨_, rfl, lt, _, _, _, rfl, rfl, SqL.of W18.lta.ob, at_of (j := 0) rfl rfl, kl, _, rfl, .inl (SqL.of W18.lta.kp.lst), rfl, _, rfl, ?_⟩
              rw [hlb18, decide_eq_true rfl]
              refine iteF ?_
              refine ⟨_, rfl, r, dx18, _, rfl, ho18, nf_no _ _ _ (by decide +kernel) (by decide +kernel) (by decide +kernel), r, sp, tl, D, xs', as2, rfl, W18.nd, ?_⟩
              refine ⟨_, rfl, by omega, by omega, fun DE hDE => ?_⟩
              refine lc_range (lo := 0) (n := (((xs'.length : Nat) : Int)).toNat) (fun m H' => Kp [] H18 H' ∧ H' DE = some (.lst ((as2.take m).map V.ref)))
                ⟨Kp.new hDE, upd_same⟩ ?_ ?_
              · rintro m H19 hm ⟨k19, hD19⟩
                refine ⟨rfl, ?_⟩
                have W19 := W18.keep k19
                obtain ⟨dx19, ho19⟩ := W19.nd.ob
                have hma : m < as2.length := by rw [W18.nd.len]; omega
                have hga := List.getElem?_eq_getElem hma
                refine ⟨_, rfl, r, dx19, _, rfl, ho19, nf_no _ _ _ (by decide +kernel) (by decide +kernel) (by decide +kernel), _, rfl, r, sp, tl, D, as2[m], xs', as2, m, by simp, W19.nd, hga, ?_⟩
                refine ⟨_, hD19, by rw [List.length_map, List.length_take]; exact small1000 (by omega), k19.mut hDE, ?_⟩
                rw [upd_same, List.take_add_one, hga, List.map_append]
                rfl
              · rintro H19 ⟨k19, hD19⟩
                have W19 := W18.keep k19
                rw [Int.toNat_natCast, ← W18.nd.len, List.take_length] at hD19
                refine ⟨_, rfl, lt, _, _, _, rfl, rfl, SqL.of W19.lta.ob, at_of (j := 0) rfl rfl, ?_⟩
                refine ⟨_, _, .lst (SqL.of hD19) (nds_dp W19.nd.len W19.nd.dt), .lst (SqL.of W19.lta.kp.lst) W19.lta.kp.dp, ndDs_shaped _, ndDs_shaped _, _, rfl, ?_⟩
                have e5 : PyData.eqv (.list (xs'.map ndD)) (.list (xs'.map ndD)) = true := SeqAt.eqv_refl _ (by simp only [PyData.canLay0, ndDs_lay])
                rw [e5]
                exact iteF ⟨_, _, _, _, _, _, _, _, xs', as2, bs', rfl, W19, by omega⟩
            · refine ⟨_, rfl, .int _, .ty "bool", .type "int", .type "bool", false, rfl, .ty _, .base (.int _), kit_ty (by decide +kernel), false, rfl, ?_⟩
              refine iteF ?_
              refine ⟨_, rfl, _, rfl, rfl, _, rfl, ?_⟩
              rw [decide_eq_true rfl]
              refine iteF ?_
              obtain ⟨dx17, ho17⟩ := W17.nd.ob
              refine ⟨_, rfl, r, dx17, _, rfl, ho17, nf_no _ _ _ (by decide +kernel) (by decide +kernel) (by decide +kernel), _, rfl, _, rfl, r, sp, tl, D, th, _, gs, xs', as', pl, ws, gr, k, rfl, W17.nd, W17.spp, hta17, by omega, e1, hPl, hwl, fun as2 H18 k18 N18 => ?_⟩
              rw [hag] at N18
              rw [hag]
              refine ⟨_, rfl, rfl, _, rfl, ?_⟩
              rw [decide_eq_true rfl]
              refine iteF ?_
              exact nx3 _ _ ⟨_, _, _, _, as2, rfl, W17.two (Ks.refl _ _) W17.lta k18 N18⟩
        · refine ⟨_, rfl, _, rfl, l, _, _, _, rfl, rfl, SqL.of W10.sz, at_of (j := pl) rfl gk, rfl, _, rfl, ?_⟩
          refine ite2 (fun h => ?_) (fun _ => ?_)
          · have h0 : k = 0 := by
              have := V.int.inj (of_decide_eq_true h)
              omega
            exact bd _ _ ⟨_, _, _, _, _, _, _, rfl, W10, .inl h0⟩
          · refine ⟨_, rfl, lt, _, _, _, rfl, rfl, SqL.of W10.lta.ob, at_of (j := 0) rfl rfl, Nat.zero_le _, fun y hy => ?_⟩
            have ky : Kp [] H10 (upd H10 y (.lst [])) := Kp.new hy
            have W11 := W10.keep ky
            refine ⟨_, _, .lst (SqL.of W11.lta.kp.lst) W11.lta.kp.dp, nil_dp, ndDs_shaped _, nil_shaped, _, rfl, ?_⟩
            rw [eqv_nil]
            generalize upd H10 y (.lst []) = H11 at W11 ⊢
            refine ite2 (fun hne => ?_) (fun _ => ⟨_, _, _, _, _, _, _, _, xs, as, bs, rfl, W11, by omega⟩)
            have hx1 : 1 ≤ xs.length := by
              cases e : xs with
              | nil => rw [e] at hne; cases hne
              | cons => show 1 ≤ _ + 1; omega
            exact bd _ _ ⟨_, _, _, _, _, _, _, rfl, W11, .inr hx1⟩
      · refine ⟨_, rfl, Nat.zero_le _, fun y hy => ?_⟩
        have ky : Kp [] H9 (upd H9 y (.lst [])) := Kp.new hy
        have W10 := W9.keep ky
        have hD10 := ky.lst hD9 (fun m => nomatch m)
        refine ⟨_, _, .lst (SqL.of hD10) (ints_dp ws), nil_dp, ints_shaped _, nil_shaped, _, rfl, ?_⟩
        rw [eqv_nil]
        generalize upd H9 y (.lst []) = H10 at W10 hD10 ⊢
        refine ite2 (fun hne => ?_) (fun _ => iteF (nx _ _ ⟨_, _, _, _, _, _, _, pl, rfl, W10, hplt⟩))
        have hw1 : 1 ≤ ws.length := by
          cases e : ws with
          | nil => rw [e] at hne; cases hne
          | cons => show 1 ≤ _ + 1; omega
        refine ⟨_, rfl, p, a, 2, rfl, W10.pen, by decide, by decide, fun z H11 k11 pn11 hz0 hz4 => ?_⟩
        have W11 := W10.pen1 k11 pn11
        have hD11 := k11.lst hD10 (fun m => hDp (List.mem_singleton.mp m))
        refine ⟨rfl, _, rfl, ?_⟩
        refine ite2 (fun _ => ?_) (fun _ => nx _ _ ⟨_, _, _, _, _, _, _, pl, rfl, W11, hplt⟩)
        refine ⟨_, rfl, _, rfl, _, rfl, DN, _, rfl, .inl (SqL.of hD11), p, a, _, rfl, W11.pen, by rw [List.length_map]; omega, by rw [List.length_map]; omega, fun z2 H12 k12 pn12 hy0 hy1 => ?_⟩
        rw [List.length_map] at hy1
        obtain ⟨o, rfl⟩ : ∃ o : Nat, z2 = o := ⟨z2.toNat, by omega⟩
        have ho : o < ws.length := by omega
        have W12 := W11.pen1 k12 pn12
        have hD12 := k12.lst hD11 (fun m => hDp (List.mem_singleton.mp m))
        obtain ⟨n, en, hn⟩ := hws2 ws[o] (List.getElem_mem ho)
        have hb : (ws.map V.int)[o]? = some (V.int (n : Nat)) := by rw [List.getElem?_map, List.getElem?_eq_getElem ho, en]; rfl
        refine ⟨DN, _, _, _, rfl, rfl, SqL.of hD12, at_of (j := o) rfl hb, ?_⟩
        exact nx _ _ ⟨_, _, _, _, _, _, _, n, rfl, W12, hn⟩
    · rintro σ H7 _
      exact q H7
  · skip
    -- the law's table
    refine ⟨Nat.zero_le _, fun kl hkl => ?_⟩
    have k7 : Kp [] H6 (upd H6 kl (.lst [])) := Kp.new hkl
    have hkl7 : (upd H6 kl (.lst [])) kl = some (.lst []) := upd_same
    have G7 := (G6.moreS hkl).keep k7
    have S7 := (S6.moreS hkl).keep k7
    have N7 := N6.keep k7
    have pn7 : PenAt (upd H6 kl (.lst [])) p a := pn6.keep k7 (fun m => nomatch m) (fun m => nomatch m)
    have hl7 := k7.lst hl6 (fun m => nomatch m)
    have hs7 := k7.sqL hs6 (fun m => nomatch m)
    have hr6 := N6.ob
    have nk : ∀ {x : Addr} {o : HO}, H6 x = some o → x ≠ kl := fun e => ne_of_none e hkl
    generalize upd H6 kl (.lst []) = H7 at k7 hkl7 G7 S7 N7 pn7 hl7 hs7 ⊢
    refine fun KD hKD => ?_
    have nKD : ∀ {x : Addr} {o : HO}, H7 x = some o → x ≠ KD := fun e => ne_of_none e hKD
    have k8 : Kp [] H7 (upd H7 KD (tbl P w KD [])) := Kp.new hKD
    have hKD8 : (upd H7 KD (tbl P w KD [])) KD = some (tbl P w KD []) := upd_same
    have hkl8 := k8.lst hkl7 (fun m => nomatch m)
    have G8 := (G7.moreS hKD).keep k8
    have S8 := (S7.moreS hKD).keep k8
    have N8 := N7.keep k8
    have pn8 : PenAt (upd H7 KD (tbl P w KD [])) p a := pn7.keep k8 (fun m => nomatch m) (fun m => nomatch m)
    have hl8 := k8.lst hl7 (fun m => nomatch m)
    have hs8 := k8.sqL hs7 (fun m => nomatch m)
    refine ⟨by show 3 ≤ sizeLine; decide, fun lt hlt => ?_⟩
    have nlt8 : ∀ {x : Addr} {o : HO}, (upd H7 KD (tbl P w KD [])) x = some o → x ≠ lt := fun e => ne_of_none e hlt
    have k9 : Kp [] (upd H7 KD (tbl P w KD [])) (upd (upd H7 KD (tbl P w KD [])) lt (.lst [.ref kl, .ref KD, .bl false])) := Kp.new hlt
    have hlt9 : (upd (upd H7 KD (tbl P w KD [])) lt (.lst [.ref kl, .ref KD, .bl false])) lt = some (.lst [.ref kl, .ref KD, .bl false]) := upd_same
    have hs9 := k9.sqL hs8 (fun m => nomatch m)
    have W : W16 P w K C CS (upd (upd H7 KD (tbl P w KD [])) lt (.lst [.ref kl, .ref KD, .bl false])) p a ga fl dd l r sp tl D lt kl KD gx kd gs [] [] [] := by
      have pe := pn6
      obtain ⟨_, _, _, ep, ea, _⟩ := pe
      obtain ⟨dx6, er⟩ := hr6
      have pe8 := pn8
      obtain ⟨_, _, _, ep8, ea8, _⟩ := pe8
      obtain ⟨dx8, er8⟩ := N8.ob
      refine ⟨pn8.keep k9 (fun m => nomatch m) (fun m => nomatch m), (G8.keep k9).lessS ?_, (S8.keep k9).lessS ?_, k9.lst hl8 (fun m => nomatch m), N8.keep k9, ⟨hlt9, ⟨k9.lst hkl8 (fun m => nomatch m), rfl, fun j b x e _ => by cases e⟩, k9 _ _ hKD8 (fun m => nomatch m), .nil⟩, ?_, ?_⟩
      · intro x mx
        simp only [List.mem_cons, List.not_mem_nil, or_false] at mx ⊢
        rcases mx with e | e | e | e | e <;> simp [e]
      · intro x mx
        simp only [List.mem_cons, List.not_mem_nil, or_false] at mx ⊢
        rcases mx with e | e | e | e | e <;> simp [e]
      · have a1 := nk ep
        have a2 := nKD (k7 _ _ ep (fun m => nomatch m))
        have a3 := nk N6.tl
        have a4 := nKD N7.tl
        have a5 := nk N6.db
        have a6 := nKD N7.db
        have a7 := nKD hkl7
        simp only [List.nodup_cons, List.mem_cons, List.not_mem_nil, or_false, not_or, List.nodup_nil, and_true, not_false_eq_true]
        exact ⟨⟨npt, npD, a1, a2⟩, ⟨ntD, a3, a4⟩, ⟨a5, a6⟩, a7⟩
      · intro x hx hm
        simp only [List.mem_cons, List.not_mem_nil, or_false] at hx hm
        rcases hx with rfl | rfl | rfl | rfl
        · rcases hm with m | m | m | m | m
          · exact pn8.ne m
          · exact nat.1 m
          · exact nat.2 m
          · exact nk ea m
          · exact nKD (k7 _ _ ea (fun m => nomatch m)) m
        · rcases hm with m | m | m | m | m
          · exact (ne_of_none (pn3.choose_spec.choose_spec.choose_spec.1) hl0) m.symm
          · exact nlt.1 m
          · exact nlt.2 m
          · exact nk hl6 m
          · exact nKD hl7 m
        · rcases hm with m | m | m | m | m
          · exact npr m.symm
          · exact nrt.1 m
          · exact nrt.2 m
          · exact nk er m
          · exact nKD (k7 _ _ er (fun m => nomatch m)) m
        · rcases hm with m | m | m | m | m
          · exact nlt8 ep8 m.symm
          · exact nlt8 N8.tl m.symm
          · exact nlt8 N8.db m.symm
          · exact nlt8 hkl8 m.symm
          · exact nlt8 hKD8 m.symm
    exact nx _ _ ⟨lt, kl, KD, rfl, W, hs9⟩
end
end Lz

set_option Elab.async false
set_option linter.all false
set_option maxRecDepth 100000
set_option maxHeartbeats 8000000
namespace Lz
open PySem PySem.Spec PyProof.Rows L2
theorem no_part {P : Program} {w : World} {K : PySem.W.Frag} {mg : Str → Option Value} {base : Heap} {f : Addr} {fd : FuncData} {j : Nat} {ps : List Str} : FnOk P w K mg base CX0 j f fd ps (spPart K 0) := by
  have no : ∀ vs H Q E, ¬ spPart K 0 vs H Q E := fun vs H Q E h => by
    obtain ⟨_, _, _, _, _, _, _, _, _, _, _, _, _, _, _, _, h1, h2, _⟩ := h
    omega
  exact ⟨fun vs H Q E h => absurd h (no vs H Q E), fun A outer s H args us vs Q E _ _ _ _ h => absurd h (no vs H Q E)⟩
theorem no_many {P : Program} {w : World} {K : PySem.W.Frag} {mg : Str → Option Value} {base : Heap} {f : Addr} {fd : FuncData} {j : Nat} {ps : List Str} : FnOk P w K mg base CX0 j f fd ps (spMany K 0) := by
  have no : ∀ vs H Q E, ¬ spMany K 0 vs H Q E := fun vs H Q E h => by
    obtain ⟨_, t, _, _, _, _, h1, _⟩ := h
    have := deep_pos t
    omega
  exact ⟨fun vs H Q E h => absurd h (no vs H Q E), fun A outer s H args us vs Q E _ _ _ _ h => absurd h (no vs H Q E)⟩
theorem no_ground {P : Program} {w : World} {K : PySem.W.Frag} {mg : Str → Option Value} {base : Heap} {f : Addr} {fd : FuncData} {j : Nat} {ps : List Str} : FnOk P w K mg base CX0 j f fd ps (spGround K 0) := by
  have no : ∀ vs H Q E, ¬ spGround K 0 vs H Q E := fun vs H Q E h => by
    obtain ⟨_, _, _, t, _, _, _, _, _, _, _, _, _, _, h1, _⟩ := h
    have := deep_pos t
    omega
  exact ⟨fun vs H Q E h => absurd h (no vs H Q E), fun A outer s H args us vs Q E _ _ _ _ h => absurd h (no vs H Q E)⟩
/-- PARTS_OF as the top leaves it -/
theorem po_mk {K : PySem.W.Frag} {pd : Addr} {u1 u2 u3 u4 u5 u6 u7 u8 u9 : Value} (h1 : PySem.W.nsIn K pd "give" = some (some u1)) (h2 : PySem.W.nsIn K pd "plus" = some (some u2)) (h3 : PySem.W.nsIn K pd "less" = some (some u3)) (h4 : PySem.W.nsIn K pd "times" = some (some u4)) (h5 : PySem.W.nsIn K pd "below" = some (some u5))
    (h6 : PySem.W.nsIn K pd "when" = some (some u6)) (h7 : PySem.W.nsIn K pd "pair" = some (some u7)) (h8 : PySem.W.nsIn K pd "left" = some (some u8)) (h9 : PySem.W.nsIn K pd "right" = some (some u9)) (n1 : PySem.W.nsIn K pd "number" = some none) (n2 : PySem.W.nsIn K pd "name" = some none) (n3 : PySem.W.nsIn K pd "fun" = some none) : PO K pd := by
  refine ⟨fun k n h => ?_, n1, n2, n3⟩
  have hk : k = "give" ∨ k = "plus" ∨ k = "less" ∨ k = "times" ∨ k = "below" ∨ k = "when" ∨ k = "pair" ∨ k = "left" ∨ k = "right" := by
    unfold kinds at h
    simp only [List.mem_cons, Prod.mk.injEq, List.not_mem_nil, or_false] at h
    rcases h with h | h | h | h | h | h | h | h | h
    · exact .inl h.1
    · exact .inr (.inl h.1)
    · exact .inr (.inr (.inl h.1))
    · exact .inr (.inr (.inr (.inl h.1)))
    · exact .inr (.inr (.inr (.inr (.inl h.1))))
    · exact .inr (.inr (.inr (.inr (.inr (.inl h.1)))))
    · exact .inr (.inr (.inr (.inr (.inr (.inr (.inl h.1))))))
    · exact .inr (.inr (.inr (.inr (.inr (.inr (.inr (.inl h.1)))))))
    · exact .inr (.inr (.inr (.inr (.inr (.inr (.inr (.inr h.1)))))))
  rcases hk with rfl | rfl | rfl | rfl | rfl | rfl | rfl | rfl | rfl
  · exact ⟨_, h1⟩
  · exact ⟨_, h2⟩
  · exact ⟨_, h3⟩
  · exact ⟨_, h4⟩
  · exact ⟨_, h5⟩
  · exact ⟨_, h6⟩
  · exact ⟨_, h7⟩
  · exact ⟨_, h8⟩
  · exact ⟨_, h9⟩
theorem all_mk {l : PySem.W.OpenLaw} {w : World} {K : PySem.W.Frag} {h : Heap} {mg : Str → Option Value} {fa CS CN : Addr} (X : K.In h) (G : h.Ns mainGlobals mg) (hfa : mg "law" = some (.ref fa))
    {pd : Addr} {es : Array DictEntry} {n : Nat} {u1 u2 u3 u4 u5 u6 u7 u8 u9 : Value}
    {fRowNames : Addr} {odRowNames anRowNames : Option Addr} {slRowNames : Array (Option Value)} {ocRowNames kVRowNames dcRowNames pmRowNames cdRowNames ctRowNames : Value}
    (aRowNames : PySem.W.nsIn K mainGlobals "row_names" = some (some (.ref fRowNames))) (lRowNames : K.lookup fRowNames = some ⟨ocRowNames, odRowNames, .func (PySem.W.fnOf "row_names" "row_names" (defArgs sRowNames) (defBody sRowNames) (defScope sRowNames) .none kVRowNames dcRowNames pmRowNames anRowNames cdRowNames ctRowNames), slRowNames⟩) (cRowNames : PySem.W.codeIn K cdRowNames "row_names" = true) (kRowNames : PySem.W.keepIn K (.ref fRowNames) = true)
    {fWithin : Addr} {odWithin anWithin : Option Addr} {slWithin : Array (Option Value)} {ocWithin kVWithin dcWithin pmWithin cdWithin ctWithin : Value}
    (aWithin : PySem.W.nsIn K mainGlobals "within" = some (some (.ref fWithin))) (lWithin : K.lookup fWithin = some ⟨ocWithin, odWithin, .func (PySem.W.fnOf "within" "within" (defArgs sWithin) (defBody sWithin) (defScope sWithin) .none kVWithin dcWithin pmWithin anWithin cdWithin ctWithin), slWithin⟩) (cWithin : PySem.W.codeIn K cdWithin "within" = true) (kWithin : PySem.W.keepIn K (.ref fWithin) = true)
    {fAllIn : Addr} {odAllIn anAllIn : Option Addr} {slAllIn : Array (Option Value)} {ocAllIn kVAllIn dcAllIn pmAllIn cdAllIn ctAllIn : Value}
    (aAllIn : PySem.W.nsIn K mainGlobals "all_in" = some (some (.ref fAllIn))) (lAllIn : K.lookup fAllIn = some ⟨ocAllIn, odAllIn, .func (PySem.W.fnOf "all_in" "all_in" (defArgs sAllIn) (defBody sAllIn) (defScope sAllIn) .none kVAllIn dcAllIn pmAllIn anAllIn cdAllIn ctAllIn), slAllIn⟩) (cAllIn : PySem.W.codeIn K cdAllIn "all_in" = true) (kAllIn : PySem.W.keepIn K (.ref fAllIn) = true)
    {fManyIn : Addr} {odManyIn anManyIn : Option Addr} {slManyIn : Array (Option Value)} {ocManyIn kVManyIn dcManyIn pmManyIn cdManyIn ctManyIn : Value}
    (aManyIn : PySem.W.nsIn K mainGlobals "many_in" = some (some (.ref fManyIn))) (lManyIn : K.lookup fManyIn = some ⟨ocManyIn, odManyIn, .func (PySem.W.fnOf "many_in" "many_in" (defArgs sManyIn) (defBody sManyIn) (defScope sManyIn) .none kVManyIn dcManyIn pmManyIn anManyIn cdManyIn ctManyIn), slManyIn⟩) (cManyIn : PySem.W.codeIn K cdManyIn "many_in" = true) (kManyIn : PySem.W.keepIn K (.ref fManyIn) = true)
    {fAllFunctions : Addr} {odAllFunctions anAllFunctions : Option Addr} {slAllFunctions : Array (Option Value)} {ocAllFunctions kVAllFunctions dcAllFunctions pmAllFunctions cdAllFunctions ctAllFunctions : Value}
    (aAllFunctions : PySem.W.nsIn K mainGlobals "all_functions" = some (some (.ref fAllFunctions))) (lAllFunctions : K.lookup fAllFunctions = some ⟨ocAllFunctions, odAllFunctions, .func (PySem.W.fnOf "all_functions" "all_functions" (defArgs sAllFunctions) (defBody sAllFunctions) (defScope sAllFunctions) .none kVAllFunctions dcAllFunctions pmAllFunctions anAllFunctions cdAllFunctions ctAllFunctions), slAllFunctions⟩) (cAllFunctions : PySem.W.codeIn K cdAllFunctions "all_functions" = true) (kAllFunctions : PySem.W.keepIn K (.ref fAllFunctions) = true)
    {fInnerPlaces : Addr} {odInnerPlaces anInnerPlaces : Option Addr} {slInnerPlaces : Array (Option Value)} {ocInnerPlaces kVInnerPlaces dcInnerPlaces pmInnerPlaces cdInnerPlaces ctInnerPlaces : Value}
    (aInnerPlaces : PySem.W.nsIn K mainGlobals "inner_places" = some (some (.ref fInnerPlaces))) (lInnerPlaces : K.lookup fInnerPlaces = some ⟨ocInnerPlaces, odInnerPlaces, .func (PySem.W.fnOf "inner_places" "inner_places" (defArgs sInnerPlaces) (defBody sInnerPlaces) (defScope sInnerPlaces) .none kVInnerPlaces dcInnerPlaces pmInnerPlaces anInnerPlaces cdInnerPlaces ctInnerPlaces), slInnerPlaces⟩) (cInnerPlaces : PySem.W.codeIn K cdInnerPlaces "inner_places" = true) (kInnerPlaces : PySem.W.keepIn K (.ref fInnerPlaces) = true)
    {fLPen : Addr} {odLPen anLPen : Option Addr} {slLPen : Array (Option Value)} {ocLPen kVLPen dcLPen pmLPen cdLPen ctLPen : Value}
    (aLPen : PySem.W.nsIn K mainGlobals "_law_pen" = some (some (.ref fLPen))) (lLPen : K.lookup fLPen = some ⟨ocLPen, odLPen, .func (PySem.W.fnOf "_law_pen" "_law_pen" (defArgs sLPen) (defBody sLPen) (defScope sLPen) .none kVLPen dcLPen pmLPen anLPen cdLPen ctLPen), slLPen⟩) (cLPen : PySem.W.codeIn K cdLPen "_law_pen" = true) (kLPen : PySem.W.keepIn K (.ref fLPen) = true)
    {fLDraw : Addr} {odLDraw anLDraw : Option Addr} {slLDraw : Array (Option Value)} {ocLDraw kVLDraw dcLDraw pmLDraw cdLDraw ctLDraw : Value}
    (aLDraw : PySem.W.nsIn K mainGlobals "_law_draw" = some (some (.ref fLDraw))) (lLDraw : K.lookup fLDraw = some ⟨ocLDraw, odLDraw, .func (PySem.W.fnOf "_law_draw" "_law_draw" (defArgs sLDraw) (defBody sLDraw) (defScope sLDraw) .none kVLDraw dcLDraw pmLDraw anLDraw cdLDraw ctLDraw), slLDraw⟩) (cLDraw : PySem.W.codeIn K cdLDraw "_law_draw" = true) (kLDraw : PySem.W.keepIn K (.ref fLDraw) = true)
    {fLNames : Addr} {odLNames anLNames : Option Addr} {slLNames : Array (Option Value)} {ocLNames kVLNames dcLNames pmLNames cdLNames ctLNames : Value}
    (aLNames : PySem.W.nsIn K mainGlobals "_law_names" = some (some (.ref fLNames))) (lLNames : K.lookup fLNames = some ⟨ocLNames, odLNames, .func (PySem.W.fnOf "_law_names" "_law_names" (defArgs sLNames) (defBody sLNames) (defScope sLNames) .none kVLNames dcLNames pmLNames anLNames cdLNames ctLNames), slLNames⟩) (cLNames : PySem.W.codeIn K cdLNames "_law_names" = true) (kLNames : PySem.W.keepIn K (.ref fLNames) = true)
    {fLNumber : Addr} {odLNumber anLNumber : Option Addr} {slLNumber : Array (Option Value)} {ocLNumber kVLNumber dcLNumber pmLNumber cdLNumber ctLNumber : Value}
    (aLNumber : PySem.W.nsIn K mainGlobals "_law_number" = some (some (.ref fLNumber))) (lLNumber : K.lookup fLNumber = some ⟨ocLNumber, odLNumber, .func (PySem.W.fnOf "_law_number" "_law_number" (defArgs sLNumber) (defBody sLNumber) (defScope sLNumber) .none kVLNumber dcLNumber pmLNumber anLNumber cdLNumber ctLNumber), slLNumber⟩) (cLNumber : PySem.W.codeIn K cdLNumber "_law_number" = true) (kLNumber : PySem.W.keepIn K (.ref fLNumber) = true)
    {fLLeaf : Addr} {odLLeaf anLLeaf : Option Addr} {slLLeaf : Array (Option Value)} {ocLLeaf kVLLeaf dcLLeaf pmLLeaf cdLLeaf ctLLeaf : Value}
    (aLLeaf : PySem.W.nsIn K mainGlobals "_law_leaf" = some (some (.ref fLLeaf))) (lLLeaf : K.lookup fLLeaf = some ⟨ocLLeaf, odLLeaf, .func (PySem.W.fnOf "_law_leaf" "_law_leaf" (defArgs sLLeaf) (defBody sLLeaf) (defScope sLLeaf) .none kVLLeaf dcLLeaf pmLLeaf anLLeaf cdLLeaf ctLLeaf), slLLeaf⟩) (cLLeaf : PySem.W.codeIn K cdLLeaf "_law_leaf" = true) (kLLeaf : PySem.W.keepIn K (.ref fLLeaf) = true)
    {fLFits : Addr} {odLFits anLFits : Option Addr} {slLFits : Array (Option Value)} {ocLFits kVLFits dcLFits pmLFits cdLFits ctLFits : Value}
    (aLFits : PySem.W.nsIn K mainGlobals "_law_fits" = some (some (.ref fLFits))) (lLFits : K.lookup fLFits = some ⟨ocLFits, odLFits, .func (PySem.W.fnOf "_law_fits" "_law_fits" (defArgs sLFits) (defBody sLFits) (defScope sLFits) .none kVLFits dcLFits pmLFits anLFits cdLFits ctLFits), slLFits⟩) (cLFits : PySem.W.codeIn K cdLFits "_law_fits" = true) (kLFits : PySem.W.keepIn K (.ref fLFits) = true)
    {fLCall : Addr} {odLCall anLCall : Option Addr} {slLCall : Array (Option Value)} {ocLCall kVLCall dcLCall pmLCall cdLCall ctLCall : Value}
    (aLCall : PySem.W.nsIn K mainGlobals "_law_call" = some (some (.ref fLCall))) (lLCall : K.lookup fLCall = some ⟨ocLCall, odLCall, .func (PySem.W.fnOf "_law_call" "_law_call" (defArgs sLCall) (defBody sLCall) (defScope sLCall) .none kVLCall dcLCall pmLCall anLCall cdLCall ctLCall), slLCall⟩) (cLCall : PySem.W.codeIn K cdLCall "_law_call" = true) (kLCall : PySem.W.keepIn K (.ref fLCall) = true)
    {fLLet : Addr} {odLLet anLLet : Option Addr} {slLLet : Array (Option Value)} {ocLLet kVLLet dcLLet pmLLet cdLLet ctLLet : Value}
    (aLLet : PySem.W.nsIn K mainGlobals "_law_let" = some (some (.ref fLLet))) (lLLet : K.lookup fLLet = some ⟨ocLLet, odLLet, .func (PySem.W.fnOf "_law_let" "_law_let" (defArgs sLLet) (defBody sLLet) (defScope sLLet) .none kVLLet dcLLet pmLLet anLLet cdLLet ctLLet), slLLet⟩) (cLLet : PySem.W.codeIn K cdLLet "_law_let" = true) (kLLet : PySem.W.keepIn K (.ref fLLet) = true)
    {fLPart : Addr} {odLPart anLPart : Option Addr} {slLPart : Array (Option Value)} {ocLPart kVLPart dcLPart pmLPart cdLPart ctLPart : Value}
    (aLPart : PySem.W.nsIn K mainGlobals "_law_part" = some (some (.ref fLPart))) (lLPart : K.lookup fLPart = some ⟨ocLPart, odLPart, .func (PySem.W.fnOf "_law_part" "_law_part" (defArgs sLPart) (defBody sLPart) (defScope sLPart) .none kVLPart dcLPart pmLPart anLPart cdLPart ctLPart), slLPart⟩) (cLPart : PySem.W.codeIn K cdLPart "_law_part" = true) (kLPart : PySem.W.keepIn K (.ref fLPart) = true)
    {fLLoop : Addr} {odLLoop anLLoop : Option Addr} {slLLoop : Array (Option Value)} {ocLLoop kVLLoop dcLLoop pmLLoop cdLLoop ctLLoop : Value}
    (aLLoop : PySem.W.nsIn K mainGlobals "_law_loop" = some (some (.ref fLLoop))) (lLLoop : K.lookup fLLoop = some ⟨ocLLoop, odLLoop, .func (PySem.W.fnOf "_law_loop" "_law_loop" (defArgs sLLoop) (defBody sLLoop) (defScope sLLoop) .none kVLLoop dcLLoop pmLLoop anLLoop cdLLoop ctLLoop), slLLoop⟩) (cLLoop : PySem.W.codeIn K cdLLoop "_law_loop" = true) (kLLoop : PySem.W.keepIn K (.ref fLLoop) = true)
    {fLBody : Addr} {odLBody anLBody : Option Addr} {slLBody : Array (Option Value)} {ocLBody kVLBody dcLBody pmLBody cdLBody ctLBody : Value}
    (aLBody : PySem.W.nsIn K mainGlobals "_law_body" = some (some (.ref fLBody))) (lLBody : K.lookup fLBody = some ⟨ocLBody, odLBody, .func (PySem.W.fnOf "_law_body" "_law_body" (defArgs sLBody) (defBody sLBody) (defScope sLBody) .none kVLBody dcLBody pmLBody anLBody cdLBody ctLBody), slLBody⟩) (cLBody : PySem.W.codeIn K cdLBody "_law_body" = true) (kLBody : PySem.W.keepIn K (.ref fLBody) = true)
    {fLProgram : Addr} {odLProgram anLProgram : Option Addr} {slLProgram : Array (Option Value)} {ocLProgram kVLProgram dcLProgram pmLProgram cdLProgram ctLProgram : Value}
    (aLProgram : PySem.W.nsIn K mainGlobals "_law_program" = some (some (.ref fLProgram))) (lLProgram : K.lookup fLProgram = some ⟨ocLProgram, odLProgram, .func (PySem.W.fnOf "_law_program" "_law_program" (defArgs sLProgram) (defBody sLProgram) (defScope sLProgram) .none kVLProgram dcLProgram pmLProgram anLProgram cdLProgram ctLProgram), slLProgram⟩) (cLProgram : PySem.W.codeIn K cdLProgram "_law_program" = true) (kLProgram : PySem.W.keepIn K (.ref fLProgram) = true)
    {fLGround : Addr} {odLGround anLGround : Option Addr} {slLGround : Array (Option Value)} {ocLGround kVLGround dcLGround pmLGround cdLGround ctLGround : Value}
    (aLGround : PySem.W.nsIn K mainGlobals "_law_ground" = some (some (.ref fLGround))) (lLGround : K.lookup fLGround = some ⟨ocLGround, odLGround, .func (PySem.W.fnOf "_law_ground" "_law_ground" (defArgs sLGround) (defBody sLGround) (defScope sLGround) .none kVLGround dcLGround pmLGround anLGround cdLGround ctLGround), slLGround⟩) (cLGround : PySem.W.codeIn K cdLGround "_law_ground" = true) (kLGround : PySem.W.keepIn K (.ref fLGround) = true)
    {fLInner : Addr} {odLInner anLInner : Option Addr} {slLInner : Array (Option Value)} {ocLInner kVLInner dcLInner pmLInner cdLInner ctLInner : Value}
    (aLInner : PySem.W.nsIn K mainGlobals "_law_inner" = some (some (.ref fLInner))) (lLInner : K.lookup fLInner = some ⟨ocLInner, odLInner, .func (PySem.W.fnOf "_law_inner" "_law_inner" (defArgs sLInner) (defBody sLInner) (defScope sLInner) .none kVLInner dcLInner pmLInner anLInner cdLInner ctLInner), slLInner⟩) (cLInner : PySem.W.codeIn K cdLInner "_law_inner" = true) (kLInner : PySem.W.keepIn K (.ref fLInner) = true)
    {fLMany : Addr} {odLMany anLMany : Option Addr} {slLMany : Array (Option Value)} {ocLMany kVLMany dcLMany pmLMany cdLMany ctLMany : Value}
    (aLMany : PySem.W.nsIn K mainGlobals "_law_many" = some (some (.ref fLMany))) (lLMany : K.lookup fLMany = some ⟨ocLMany, odLMany, .func (PySem.W.fnOf "_law_many" "_law_many" (defArgs sLMany) (defBody sLMany) (defScope sLMany) .none kVLMany dcLMany pmLMany anLMany cdLMany ctLMany), slLMany⟩) (cLMany : PySem.W.codeIn K cdLMany "_law_many" = true) (kLMany : PySem.W.keepIn K (.ref fLMany) = true)
    {fLGrounds : Addr} {odLGrounds anLGrounds : Option Addr} {slLGrounds : Array (Option Value)} {ocLGrounds kVLGrounds dcLGrounds pmLGrounds cdLGrounds ctLGrounds : Value}
    (aLGrounds : PySem.W.nsIn K mainGlobals "_law_grounds" = some (some (.ref fLGrounds))) (lLGrounds : K.lookup fLGrounds = some ⟨ocLGrounds, odLGrounds, .func (PySem.W.fnOf "_law_grounds" "_law_grounds" (defArgs sLGrounds) (defBody sLGrounds) (defScope sLGrounds) .none kVLGrounds dcLGrounds pmLGrounds anLGrounds cdLGrounds ctLGrounds), slLGrounds⟩) (cLGrounds : PySem.W.codeIn K cdLGrounds "_law_grounds" = true) (kLGrounds : PySem.W.keepIn K (.ref fLGrounds) = true)
    {fLNode : Addr} {odLNode anLNode : Option Addr} {slLNode : Array (Option Value)} {ocLNode kVLNode dcLNode pmLNode cdLNode ctLNode : Value}
    (aLNode : PySem.W.nsIn K mainGlobals "_law_node" = some (some (.ref fLNode))) (lLNode : K.lookup fLNode = some ⟨ocLNode, odLNode, .func (PySem.W.fnOf "_law_node" "_law_node" (defArgs sLNode) (defBody sLNode) (defScope sLNode) .none kVLNode dcLNode pmLNode anLNode cdLNode ctLNode), slLNode⟩) (cLNode : PySem.W.codeIn K cdLNode "_law_node" = true) (kLNode : PySem.W.keepIn K (.ref fLNode) = true)
    {fLSeen : Addr} {odLSeen anLSeen : Option Addr} {slLSeen : Array (Option Value)} {ocLSeen kVLSeen dcLSeen pmLSeen cdLSeen ctLSeen : Value}
    (aLSeen : PySem.W.nsIn K mainGlobals "_law_seen" = some (some (.ref fLSeen))) (lLSeen : K.lookup fLSeen = some ⟨ocLSeen, odLSeen, .func (PySem.W.fnOf "_law_seen" "_law_seen" (defArgs sLSeen) (defBody sLSeen) (defScope sLSeen) .none kVLSeen dcLSeen pmLSeen anLSeen cdLSeen ctLSeen), slLSeen⟩) (cLSeen : PySem.W.codeIn K cdLSeen "_law_seen" = true) (kLSeen : PySem.W.keepIn K (.ref fLSeen) = true)
    {fLRows : Addr} {odLRows anLRows : Option Addr} {slLRows : Array (Option Value)} {ocLRows kVLRows dcLRows pmLRows cdLRows ctLRows : Value}
    (aLRows : PySem.W.nsIn K mainGlobals "_law_rows" = some (some (.ref fLRows))) (lLRows : K.lookup fLRows = some ⟨ocLRows, odLRows, .func (PySem.W.fnOf "_law_rows" "_law_rows" (defArgs sLRows) (defBody sLRows) (defScope sLRows) .none kVLRows dcLRows pmLRows anLRows cdLRows ctLRows), slLRows⟩) (cLRows : PySem.W.codeIn K cdLRows "_law_rows" = true) (kLRows : PySem.W.keepIn K (.ref fLRows) = true)
    {fLaw : Addr} {odLaw anLaw : Option Addr} {slLaw : Array (Option Value)} {ocLaw kVLaw dcLaw pmLaw cdLaw ctLaw : Value}
    (aLaw : PySem.W.nsIn K mainGlobals "law" = some (some (.ref fLaw))) (lLaw : K.lookup fLaw = some ⟨ocLaw, odLaw, .func (PySem.W.fnOf "law" "law" (defArgs sLaw) (defBody sLaw) (defScope sLaw) .none kVLaw dcLaw pmLaw anLaw cdLaw ctLaw), slLaw⟩) (cLaw : PySem.W.codeIn K cdLaw "law" = true) (kLaw : PySem.W.keepIn K (.ref fLaw) = true)
    (zlen : PySem.W.nsIn K mainGlobals "len" = some none)
    (zmax : PySem.W.nsIn K mainGlobals "max" = some none)
    (zmin : PySem.W.nsIn K mainGlobals "min" = some none)
    (zabs : PySem.W.nsIn K mainGlobals "abs" = some none)
    (zrange : PySem.W.nsIn K mainGlobals "range" = some none)
    (zint : PySem.W.nsIn K mainGlobals "int" = some none)
    (zlist : PySem.W.nsIn K mainGlobals "list" = some none)
    (ztuple : PySem.W.nsIn K mainGlobals "tuple" = some none)
    (zsum : PySem.W.nsIn K mainGlobals "sum" = some none)
    (zisinstance : PySem.W.nsIn K mainGlobals "isinstance" = some none)
    (zbool : PySem.W.nsIn K mainGlobals "bool" = some none)
    (zenumerate : PySem.W.nsIn K mainGlobals "enumerate" = some none)
    (zzip : PySem.W.nsIn K mainGlobals "zip" = some none)
    (zdict : PySem.W.nsIn K mainGlobals "dict" = some none)
    (aP : PySem.W.nsIn K mainGlobals "PARTS_OF" = some (some (.ref pd))) (lP : K.lookup pd = some ⟨.type "dict", none, .dict es n, #[]⟩) (tP : PySem.W.KeysLit w.params es.toList) (wP : (pd == sysModules) = false)
    (h1 : PySem.W.nsIn K pd "give" = some (some u1)) (h2 : PySem.W.nsIn K pd "plus" = some (some u2)) (h3 : PySem.W.nsIn K pd "less" = some (some u3)) (h4 : PySem.W.nsIn K pd "times" = some (some u4)) (h5 : PySem.W.nsIn K pd "below" = some (some u5))
    (h6 : PySem.W.nsIn K pd "when" = some (some u6)) (h7 : PySem.W.nsIn K pd "pair" = some (some u7)) (h8 : PySem.W.nsIn K pd "left" = some (some u8)) (h9 : PySem.W.nsIn K pd "right" = some (some u9)) (n1 : PySem.W.nsIn K pd "number" = some none) (n2 : PySem.W.nsIn K pd "name" = some none) (n3 : PySem.W.nsIn K pd "fun" = some none)
    {fSInit : Addr} {odSInit anSInit : Option Addr} {slSInit : Array (Option Value)} {ocSInit kVSInit dcSInit pmSInit cdSInit ctSInit : Value}
    (aSInit : PySem.W.findIn K (.ref CS) "__init__" = some (some (.ref fSInit))) (iSInit : PySem.W.isFn K (.ref fSInit) = true) (lSInit : K.lookup fSInit = some ⟨ocSInit, odSInit, .func (PySem.W.fnOf "__init__" "Spots.__init__" (defArgs sSInit) (defBody sSInit) (defScope sSInit) .none kVSInit dcSInit pmSInit anSInit cdSInit ctSInit), slSInit⟩) (cSInit : PySem.W.codeIn K cdSInit "Spots.__init__" = true) (kSInit : PySem.W.keepIn K (.ref fSInit) = true)
    {fSAddBody : Addr} {odSAddBody anSAddBody : Option Addr} {slSAddBody : Array (Option Value)} {ocSAddBody kVSAddBody dcSAddBody pmSAddBody cdSAddBody ctSAddBody : Value}
    (aSAddBody : PySem.W.findIn K (.ref CS) "_add_body" = some (some (.ref fSAddBody))) (iSAddBody : PySem.W.isFn K (.ref fSAddBody) = true) (lSAddBody : K.lookup fSAddBody = some ⟨ocSAddBody, odSAddBody, .func (PySem.W.fnOf "_add_body" "Spots._add_body" (defArgs sSAddBody) (defBody sSAddBody) (defScope sSAddBody) .none kVSAddBody dcSAddBody pmSAddBody anSAddBody cdSAddBody ctSAddBody), slSAddBody⟩) (cSAddBody : PySem.W.codeIn K cdSAddBody "Spots._add_body" = true) (kSAddBody : PySem.W.keepIn K (.ref fSAddBody) = true)
    {fSPart : Addr} {odSPart anSPart : Option Addr} {slSPart : Array (Option Value)} {ocSPart kVSPart dcSPart pmSPart cdSPart ctSPart : Value}
    (aSPart : PySem.W.findIn K (.ref CS) "part" = some (some (.ref fSPart))) (iSPart : PySem.W.isFn K (.ref fSPart) = true) (lSPart : K.lookup fSPart = some ⟨ocSPart, odSPart, .func (PySem.W.fnOf "part" "Spots.part" (defArgs sSPart) (defBody sSPart) (defScope sSPart) .none kVSPart dcSPart pmSPart anSPart cdSPart ctSPart), slSPart⟩) (cSPart : PySem.W.codeIn K cdSPart "Spots.part" = true) (kSPart : PySem.W.keepIn K (.ref fSPart) = true)
    {fSNamed : Addr} {odSNamed anSNamed : Option Addr} {slSNamed : Array (Option Value)} {ocSNamed kVSNamed dcSNamed pmSNamed cdSNamed ctSNamed : Value}
    (aSNamed : PySem.W.findIn K (.ref CS) "named" = some (some (.ref fSNamed))) (iSNamed : PySem.W.isFn K (.ref fSNamed) = true) (lSNamed : K.lookup fSNamed = some ⟨ocSNamed, odSNamed, .func (PySem.W.fnOf "named" "Spots.named" (defArgs sSNamed) (defBody sSNamed) (defScope sSNamed) .none kVSNamed dcSNamed pmSNamed anSNamed cdSNamed ctSNamed), slSNamed⟩) (cSNamed : PySem.W.codeIn K cdSNamed "Spots.named" = true) (kSNamed : PySem.W.keepIn K (.ref fSNamed) = true)
    (aCS : PySem.W.nsIn K mainGlobals "Spots" = some (some (.ref CS))) (pgS : PySem.W.plainGet K CS Str.empty = true) (hdS : PySem.W.hasDictIn K CS = true) (poS : PySem.W.plainOver K CS = true) (saS : PySem.W.findIn K (.ref CS) "__setattr__" = some (some (.builtin "object.__setattr__"))) (mkS : PySem.W.makesIn K CS = true) (kcS : PySem.W.keepIn K (.ref CS) = true)
    {fNInit : Addr} {odNInit anNInit : Option Addr} {slNInit : Array (Option Value)} {ocNInit kVNInit dcNInit pmNInit cdNInit ctNInit : Value}
    (aNInit : PySem.W.findIn K (.ref CN) "__init__" = some (some (.ref fNInit))) (iNInit : PySem.W.isFn K (.ref fNInit) = true) (lNInit : K.lookup fNInit = some ⟨ocNInit, odNInit, .func (PySem.W.fnOf "__init__" "Nodes.__init__" (defArgs sNInit) (defBody sNInit) (defScope sNInit) .none kVNInit dcNInit pmNInit anNInit cdNInit ctNInit), slNInit⟩) (cNInit : PySem.W.codeIn K cdNInit "Nodes.__init__" = true) (kNInit : PySem.W.keepIn K (.ref fNInit) = true)
    {fNNode : Addr} {odNNode anNNode : Option Addr} {slNNode : Array (Option Value)} {ocNNode kVNNode dcNNode pmNNode cdNNode ctNNode : Value}
    (aNNode : PySem.W.findIn K (.ref CN) "node" = some (some (.ref fNNode))) (iNNode : PySem.W.isFn K (.ref fNNode) = true) (lNNode : K.lookup fNNode = some ⟨ocNNode, odNNode, .func (PySem.W.fnOf "node" "Nodes.node" (defArgs sNNode) (defBody sNNode) (defScope sNNode) .none kVNNode dcNNode pmNNode anNNode cdNNode ctNNode), slNNode⟩) (cNNode : PySem.W.codeIn K cdNNode "Nodes.node" = true) (kNNode : PySem.W.keepIn K (.ref fNNode) = true)
    {fNSeen : Addr} {odNSeen anNSeen : Option Addr} {slNSeen : Array (Option Value)} {ocNSeen kVNSeen dcNSeen pmNSeen cdNSeen ctNSeen : Value}
    (aNSeen : PySem.W.findIn K (.ref CN) "seen" = some (some (.ref fNSeen))) (iNSeen : PySem.W.isFn K (.ref fNSeen) = true) (lNSeen : K.lookup fNSeen = some ⟨ocNSeen, odNSeen, .func (PySem.W.fnOf "seen" "Nodes.seen" (defArgs sNSeen) (defBody sNSeen) (defScope sNSeen) .none kVNSeen dcNSeen pmNSeen anNSeen cdNSeen ctNSeen), slNSeen⟩) (cNSeen : PySem.W.codeIn K cdNSeen "Nodes.seen" = true) (kNSeen : PySem.W.keepIn K (.ref fNSeen) = true)
    {fNTold : Addr} {odNTold anNTold : Option Addr} {slNTold : Array (Option Value)} {ocNTold kVNTold dcNTold pmNTold cdNTold ctNTold : Value}
    (aNTold : PySem.W.findIn K (.ref CN) "told" = some (some (.ref fNTold))) (iNTold : PySem.W.isFn K (.ref fNTold) = true) (lNTold : K.lookup fNTold = some ⟨ocNTold, odNTold, .func (PySem.W.fnOf "told" "Nodes.told" (defArgs sNTold) (defBody sNTold) (defScope sNTold) .none kVNTold dcNTold pmNTold anNTold cdNTold ctNTold), slNTold⟩) (cNTold : PySem.W.codeIn K cdNTold "Nodes.told" = true) (kNTold : PySem.W.keepIn K (.ref fNTold) = true)
    {fNMany : Addr} {odNMany anNMany : Option Addr} {slNMany : Array (Option Value)} {ocNMany kVNMany dcNMany pmNMany cdNMany ctNMany : Value}
    (aNMany : PySem.W.findIn K (.ref CN) "many" = some (some (.ref fNMany))) (iNMany : PySem.W.isFn K (.ref fNMany) = true) (lNMany : K.lookup fNMany = some ⟨ocNMany, odNMany, .func (PySem.W.fnOf "many" "Nodes.many" (defArgs sNMany) (defBody sNMany) (defScope sNMany) .none kVNMany dcNMany pmNMany anNMany cdNMany ctNMany), slNMany⟩) (cNMany : PySem.W.codeIn K cdNMany "Nodes.many" = true) (kNMany : PySem.W.keepIn K (.ref fNMany) = true)
    (aCN : PySem.W.nsIn K mainGlobals "Nodes" = some (some (.ref CN))) (pgN : PySem.W.plainGet K CN Str.empty = true) (hdN : PySem.W.hasDictIn K CN = true) (poN : PySem.W.plainOver K CN = true) (saN : PySem.W.findIn K (.ref CN) "__setattr__" = some (some (.builtin "object.__setattr__"))) (mkN : PySem.W.makesIn K CN = true) (kcN : PySem.W.keepIn K (.ref CN) = true)
    (nS0 : PySem.W.findIn K (.ref CS) "_parts" = some none)    (nS1 : PySem.W.findIn K (.ref CS) "_inner" = some none)    (nS2 : PySem.W.findIn K (.ref CS) "_many_names" = some none)    (nS3 : PySem.W.findIn K (.ref CS) "_named" = some none)    (nS4 : PySem.W.findIn K (.ref CS) "_bodies" = some none)    (nS5 : PySem.W.findIn K (.ref CS) "_wanted" = some none)
    (nN0 : PySem.W.findIn K (.ref CN) "spots" = some none)    (nN1 : PySem.W.findIn K (.ref CN) "_told" = some none)    (nN2 : PySem.W.findIn K (.ref CN) "_numbers" = some none) :
    ∃ fd : FuncData, (∀ (s : Shared) (v : Value), BindsTo s fd ⟨[v], []⟩ [("_law_script", v)]) ∧ ∀ base : Heap, K.In base → base.Ns mainGlobals mg → FnOk l.prog w K mg base CX0 32 fa fd ["_law_script"] (spLaw16 K) := by
  have e := hfa.symm.trans (PySem.W.mg_of X G aLaw)
  cases e
  have FRowNames := fun_mk (st := sRowNames) lRowNames cRowNames kRowNames
  have bRowNames := FRowNames.binds (ps := ["part"]) fun _ _ _ _ _ _ us hl => match us, hl with | [_], _ => rfl
  have mRowNames := PySem.W.mg_of X G aRowNames
  have FWithin := fun_mk (st := sWithin) lWithin cWithin kWithin
  have bWithin := FWithin.binds (ps := ["part"]) fun _ _ _ _ _ _ us hl => match us, hl with | [_], _ => rfl
  have mWithin := PySem.W.mg_of X G aWithin
  have FAllIn := fun_mk (st := sAllIn) lAllIn cAllIn kAllIn
  have bAllIn := FAllIn.binds (ps := ["part"]) fun _ _ _ _ _ _ us hl => match us, hl with | [_], _ => rfl
  have mAllIn := PySem.W.mg_of X G aAllIn
  have FManyIn := fun_mk (st := sManyIn) lManyIn cManyIn kManyIn
  have bManyIn := FManyIn.binds (ps := ["part"]) fun _ _ _ _ _ _ us hl => match us, hl with | [_], _ => rfl
  have mManyIn := PySem.W.mg_of X G aManyIn
  have FAllFunctions := fun_mk (st := sAllFunctions) lAllFunctions cAllFunctions kAllFunctions
  have bAllFunctions := FAllFunctions.binds (ps := ["program"]) fun _ _ _ _ _ _ us hl => match us, hl with | [_], _ => rfl
  have mAllFunctions := PySem.W.mg_of X G aAllFunctions
  have FInnerPlaces := fun_mk (st := sInnerPlaces) lInnerPlaces cInnerPlaces kInnerPlaces
  have bInnerPlaces := FInnerPlaces.binds (ps := ["place", "part"]) fun _ _ _ _ _ _ us hl => match us, hl with | [_, _], _ => rfl
  have mInnerPlaces := PySem.W.mg_of X G aInnerPlaces
  have FLPen := fun_mk (st := sLPen) lLPen cLPen kLPen
  have bLPen := FLPen.binds (ps := ["_law_script"]) fun _ _ _ _ _ _ us hl => match us, hl with | [_], _ => rfl
  have mLPen := PySem.W.mg_of X G aLPen
  have FLDraw := fun_mk (st := sLDraw) lLDraw cLDraw kLDraw
  have bLDraw := FLDraw.binds (ps := ["_law_pen_here", "_law_many_here"]) fun _ _ _ _ _ _ us hl => match us, hl with | [_, _], _ => rfl
  have mLDraw := PySem.W.mg_of X G aLDraw
  have FLNames := fun_mk (st := sLNames) lLNames cLNames kLNames
  have bLNames := FLNames.binds (ps := ["_law_pen_here", "_law_many_here"]) fun _ _ _ _ _ _ us hl => match us, hl with | [_, _], _ => rfl
  have mLNames := PySem.W.mg_of X G aLNames
  have FLNumber := fun_mk (st := sLNumber) lLNumber cLNumber kLNumber
  have bLNumber := FLNumber.binds (ps := ["_law_pen_here"]) fun _ _ _ _ _ _ us hl => match us, hl with | [_], _ => rfl
  have mLNumber := PySem.W.mg_of X G aLNumber
  have FLLeaf := fun_mk (st := sLLeaf) lLLeaf cLLeaf kLLeaf
  have bLLeaf := FLLeaf.binds (ps := ["_law_pen_here", "_law_world", "_law_scope", "_law_want"]) fun _ _ _ _ _ _ us hl => match us, hl with | [_, _, _, _], _ => rfl
  have mLLeaf := PySem.W.mg_of X G aLLeaf
  have FLFits := fun_mk (st := sLFits) lLFits cLFits kLFits
  have bLFits := FLFits.binds (ps := ["_law_room", "_law_many_here"]) fun _ _ _ _ _ _ us hl => match us, hl with | [_, _], _ => rfl
  have mLFits := PySem.W.mg_of X G aLFits
  have FLCall := fun_mk (st := sLCall) lLCall cLCall kLCall
  have bLCall := FLCall.binds (ps := ["_law_pen_here", "_law_world", "_law_scope", "_law_room", "_law_want"]) fun _ _ _ _ _ _ us hl => match us, hl with | [_, _, _, _, _], _ => rfl
  have mLCall := PySem.W.mg_of X G aLCall
  have FLLet := fun_mk (st := sLLet) lLLet cLLet kLLet
  have bLLet := FLLet.binds (ps := ["_law_pen_here", "_law_world", "_law_scope", "_law_room", "_law_want"]) fun _ _ _ _ _ _ us hl => match us, hl with | [_, _, _, _, _], _ => rfl
  have mLLet := PySem.W.mg_of X G aLLet
  have FLPart := fun_mk (st := sLPart) lLPart cLPart kLPart
  have bLPart := FLPart.binds (ps := ["_law_pen_here", "_law_world", "_law_scope", "_law_room", "_law_want"]) fun _ _ _ _ _ _ us hl => match us, hl with | [_, _, _, _, _], _ => rfl
  have mLPart := PySem.W.mg_of X G aLPart
  have FLLoop := fun_mk (st := sLLoop) lLLoop cLLoop kLLoop
  have bLLoop := FLLoop.binds (ps := ["_law_pen_here", "_law_world", "_law_me", "_law_things", "_law_room"]) fun _ _ _ _ _ _ us hl => match us, hl with | [_, _, _, _, _], _ => rfl
  have mLLoop := PySem.W.mg_of X G aLLoop
  have FLBody := fun_mk (st := sLBody) lLBody cLBody kLBody
  have bLBody := FLBody.binds (ps := ["_law_pen_here", "_law_world", "_law_me", "_law_things", "_law_stock"]) fun _ _ _ _ _ _ us hl => match us, hl with | [_, _, _, _, _], _ => rfl
  have mLBody := PySem.W.mg_of X G aLBody
  have FLProgram := fun_mk (st := sLProgram) lLProgram cLProgram kLProgram
  have bLProgram := FLProgram.binds (ps := ["_law_pen_here"]) fun _ _ _ _ _ _ us hl => match us, hl with | [_], _ => rfl
  have mLProgram := PySem.W.mg_of X G aLProgram
  have FLGround := fun_mk (st := sLGround) lLGround cLGround kLGround
  have bLGround := FLGround.binds (ps := ["_law_part_here", "_law_place", "_law_known"]) fun _ _ _ _ _ _ us hl => match us, hl with | [_, _, _], _ => rfl
  have mLGround := PySem.W.mg_of X G aLGround
  have FLInner := fun_mk (st := sLInner) lLInner cLInner kLInner
  have bLInner := FLInner.binds (ps := ["_law_part_here"]) fun _ _ _ _ _ _ us hl => match us, hl with | [_], _ => rfl
  have mLInner := PySem.W.mg_of X G aLInner
  have FLMany := fun_mk (st := sLMany) lLMany cLMany kLMany
  have bLMany := FLMany.binds (ps := ["_law_part_here"]) fun _ _ _ _ _ _ us hl => match us, hl with | [_], _ => rfl
  have mLMany := PySem.W.mg_of X G aLMany
  have FLGrounds := fun_mk (st := sLGrounds) lLGrounds cLGrounds kLGrounds
  have bLGrounds := FLGrounds.binds (ps := ["_law_program_here"]) fun _ _ _ _ _ _ us hl => match us, hl with | [_], _ => rfl
  have mLGrounds := PySem.W.mg_of X G aLGrounds
  have FLNode := fun_mk (st := sLNode) lLNode cLNode kLNode
  have bLNode := FLNode.binds (ps := ["_law_table", "_law_place", "_law_things"]) fun _ _ _ _ _ _ us hl => match us, hl with | [_, _, _], _ => rfl
  have mLNode := PySem.W.mg_of X G aLNode
  have FLSeen := fun_mk (st := sLSeen) lLSeen cLSeen kLSeen
  have bLSeen := FLSeen.binds (ps := ["_law_ground_here", "_law_table", "_law_place", "_law_things"]) fun _ _ _ _ _ _ us hl => match us, hl with | [_, _, _, _], _ => rfl
  have mLSeen := PySem.W.mg_of X G aLSeen
  have FLRows := fun_mk (st := sLRows) lLRows cLRows kLRows
  have bLRows := FLRows.binds (ps := ["_law_program_here"]) fun _ _ _ _ _ _ us hl => match us, hl with | [_], _ => rfl
  have mLRows := PySem.W.mg_of X G aLRows
  have FLaw := fun_mk (st := sLaw) lLaw cLaw kLaw
  have bLaw := FLaw.binds (ps := ["_law_script"]) fun _ _ _ _ _ _ us hl => match us, hl with | [_], _ => rfl
  have mLaw := PySem.W.mg_of X G aLaw
  have FSInit := fun_mk (st := sSInit) lSInit cSInit kSInit
  have bSInit := FSInit.binds (ps := ["self", "program"]) fun _ _ _ _ _ _ us hl => match us, hl with | [_, _], _ => rfl
  have FSAddBody := fun_mk (st := sSAddBody) lSAddBody cSAddBody kSAddBody
  have bSAddBody := FSAddBody.binds (ps := ["self", "names", "body"]) fun _ _ _ _ _ _ us hl => match us, hl with | [_, _, _], _ => rfl
  have FSPart := fun_mk (st := sSPart) lSPart cSPart kSPart
  have bSPart := FSPart.binds (ps := ["self", "place"]) fun _ _ _ _ _ _ us hl => match us, hl with | [_, _], _ => rfl
  have FSNamed := fun_mk (st := sSNamed) lSNamed cSNamed kSNamed
  have bSNamed := FSNamed.binds (ps := ["self", "place"]) fun _ _ _ _ _ _ us hl => match us, hl with | [_, _], _ => rfl
  have FNInit := fun_mk (st := sNInit) lNInit cNInit kNInit
  have bNInit := FNInit.binds (ps := ["self", "program"]) fun _ _ _ _ _ _ us hl => match us, hl with | [_, _], _ => rfl
  have FNNode := fun_mk (st := sNNode) lNNode cNNode kNNode
  have bNNode := FNNode.binds (ps := ["self", "place", "things"]) fun _ _ _ _ _ _ us hl => match us, hl with | [_, _, _], _ => rfl
  have FNSeen := fun_mk (st := sNSeen) lNSeen cNSeen kNSeen
  have bNSeen := FNSeen.binds (ps := ["self", "place", "things"]) fun _ _ _ _ _ _ us hl => match us, hl with | [_, _, _], _ => rfl
  have FNTold := fun_mk (st := sNTold) lNTold cNTold kNTold
  have bNTold := FNTold.binds (ps := ["self", "number"]) fun _ _ _ _ _ _ us hl => match us, hl with | [_, _], _ => rfl
  have FNMany := fun_mk (st := sNMany) lNMany cNMany kNMany
  have bNMany := FNMany.binds (ps := ["self"]) fun _ _ _ _ _ _ us hl => match us, hl with | [_], _ => rfl
  have B : Bt mg := ⟨PySem.W.mg_none_of X G zlen, PySem.W.mg_none_of X G zmax, PySem.W.mg_none_of X G zmin, PySem.W.mg_none_of X G zabs, PySem.W.mg_none_of X G zrange, PySem.W.mg_none_of X G zint, PySem.W.mg_none_of X G zlist, PySem.W.mg_none_of X G ztuple, PySem.W.mg_none_of X G zsum, PySem.W.mg_none_of X G zisinstance⟩
  refine ⟨PySem.W.fnOf "law" "law" (defArgs sLaw) (defBody sLaw) (defScope sLaw) .none kVLaw dcLaw pmLaw anLaw cdLaw ctLaw, fun s v => .of_eq rfl, fun base _ _ => ?_⟩
  have DK : KDict K w pd es n := ⟨lP, tP, wP⟩
  have O := po_mk h1 h2 h3 h4 h5 h6 h7 h8 h9 n1 n2 n3
  have CLDraw := cal_mk (P := l.prog) (w := w) (base := base) FLDraw (ok_draw FLDraw B) mLDraw bLDraw
  have CLNames := cal_mk (P := l.prog) (w := w) (base := base) FLNames (ok_names FLNames B CLDraw) mLNames bLNames
  have CLNumber := cal_mk (P := l.prog) (w := w) (base := base) FLNumber (ok_number FLNumber B CLDraw) mLNumber bLNumber
  have CLLeaf := cal_mk (P := l.prog) (w := w) (base := base) FLLeaf (ok_leaf FLLeaf B CLDraw CLNumber) mLLeaf bLLeaf
  have CLFits := cal_mk (P := l.prog) (w := w) (base := base) FLFits (ok_fits FLFits) mLFits bLFits
  have parts : ∀ k, C8.Cal l.prog w K mg base (2 * k + 4) "_law_part" (spPart K k) [] := fun k => by
    induction k with
    | zero => exact cal_mk FLPart no_part mLPart bLPart
    | succ k ih =>
      have c1 := cal_mk FLCall (ok_call (by omega) FLCall B CLDraw CLLeaf CLFits ih) mLCall bLCall
      have c2 := cal_mk FLLet (ok_let (by omega) FLLet B CLDraw CLLeaf CLFits ih) mLLet bLLet
      exact cal_mk FLPart (ok_part (by omega) FLPart B CLDraw CLLeaf CLFits ih c1 c2) mLPart bLPart
  have CLPart := parts 12
  have CLLoop := cal_mk FLLoop (ok_loop (by omega) (by omega) FLLoop B CLDraw CLPart) mLLoop bLLoop
  have CLBody := cal_mk FLBody (ok_body (by omega) FLBody B CLDraw CLPart CLLoop) mLBody bLBody
  have CLProgram := cal_mk FLProgram (ok_program (by omega) FLProgram B CLDraw CLNames CLBody) mLProgram bLProgram
  have CLPen := cal_mk (P := l.prog) (w := w) (base := base) FLPen (ok_pen FLPen B) mLPen bLPen
  have CWithin := cal_mk (P := l.prog) (w := w) (base := base) FWithin (ok_within FWithin B (PySem.W.mg_of X G aP) DK O) mWithin bWithin
  have CLInner := cal_mk (P := l.prog) (w := w) (base := base) FLInner (ok_inner FLInner) mLInner bLInner
  have manys : ∀ k, C8.Cal l.prog w K mg base (k + 1) "many_in" (spMany K k) [] := fun k => by
    induction k with
    | zero => exact cal_mk FManyIn no_many mManyIn bManyIn
    | succ k ih => exact cal_mk FManyIn (ok_many (by omega) FManyIn B CWithin ih) mManyIn bManyIn
  have menum := PySem.W.mg_none_of X G zenumerate
  have mzip := PySem.W.mg_none_of X G zzip
  have mbool := PySem.W.mg_none_of X G zbool
  have mdict := PySem.W.mg_none_of X G zdict
  have lmanys : ∀ k, C8.Cal l.prog w K mg base (k + 1) "_law_many" (spMany K k) [] := fun k => by
    induction k with
    | zero => exact cal_mk FLMany no_many mLMany bLMany
    | succ k ih => exact cal_mk FLMany (ok_lmany (by omega) FLMany B CLInner ih) mLMany bLMany
  have CAllIn := cal_mk (P := l.prog) (w := w) (K := K) (base := base) FAllIn (ok_all (n := 12) FAllIn CWithin) mAllIn bAllIn
  have CRowNames := cal_mk (P := l.prog) (w := w) (K := K) (base := base) FRowNames (ok_rowNames FRowNames) mRowNames bRowNames
  have CAllFunctions := cal_mk (P := l.prog) (w := w) (K := K) (base := base) FAllFunctions (ok_funs FAllFunctions) mAllFunctions bAllFunctions
  have CInnerPlaces := cal_mk FInnerPlaces (ok_placesX (by omega) FInnerPlaces CWithin (manys 12)) mInnerPlaces bInnerPlaces
  have grounds : ∀ k, C8.Cal l.prog w K mg base (k + 13) "_law_ground" (spGround K k) [] := fun k => by
    induction k with
    | zero => exact cal_mk FLGround no_ground mLGround bLGround
    | succ k ih => exact cal_mk FLGround (ok_ground (by omega) FLGround mzip mdict CLInner (lmanys 12) ih) mLGround bLGround
  have CLGrounds := cal_mk FLGrounds (ok_grounds (by omega) FLGrounds B menum (grounds 12)) mLGrounds bLGrounds
  have RS : SC K CS := ⟨⟨pgS, hdS, poS, saS⟩, nS0, nS1, nS2, nS3, nS4, nS5⟩
  have RN : NC K CN := ⟨⟨pgN, hdN, poN, saN⟩, nN0, nN1, nN2⟩
  have CSAddBody : C8.Met l.prog w K mg base 15 CS "_add_body" (spAddBodyX K CS) [] := ⟨_, _, _, [], RS.cl, ⟨aSAddBody, iSAddBody, kSAddBody⟩, ok_addBX (by omega) FSAddBody RS B menum mzip CAllIn CRowNames CInnerPlaces, bSAddBody, .nil⟩
  have CSpotsMake : C8.Mak l.prog w K mg base 16 "Spots" CS (spSpotsX K CS) [] := ⟨_, _, _, [], ⟨mkS, aSInit, iSInit, kcS⟩, ok_spotsX (by omega) FSInit RS B CAllFunctions CSAddBody, PySem.W.mg_of X G aCS, bSInit, .nil⟩
  have CNodesMake : C8.Mak l.prog w K mg base 18 "Nodes" CN (spNodesX l.prog w K CN CS) [] := ⟨_, _, _, [], ⟨mkN, aNInit, iNInit, kcN⟩, ok_nodesX FNInit RN CSpotsMake, PySem.W.mg_of X G aCN, bNInit, .nil⟩
  have CSPart : C8.Met l.prog w K mg base 1 CS "part" (spPartS K CS) [] := ⟨_, _, _, [], RS.cl, ⟨aSPart, iSPart, kSPart⟩, ok_partS FSPart RS, bSPart, .nil⟩
  have CSNamed : C8.Met l.prog w K mg base 1 CS "named" (spNamedS K CS) [] := ⟨_, _, _, [], RS.cl, ⟨aSNamed, iSNamed, kSNamed⟩, ok_namedS FSNamed RS, bSNamed, .nil⟩
  have CNNode : C8.Met l.prog w K mg base 1 CN "node" (spNode l.prog w CN) [] := ⟨_, _, _, [], RN.cl, ⟨aNNode, iNNode, kNNode⟩, ok_node FNNode RN B, bNNode, .nil⟩
  have CNTold : C8.Met l.prog w K mg base 1 CN "told" (spTold l.prog w CN) [] := ⟨_, _, _, [], RN.cl, ⟨aNTold, iNTold, kNTold⟩, ok_told FNTold RN, bNTold, .nil⟩
  have CNMany : C8.Met l.prog w K mg base 1 CN "many" (spManyN l.prog w CN) [] := ⟨_, _, _, [], RN.cl, ⟨aNMany, iNMany, kNMany⟩, ok_manyN FNMany RN B, bNMany, .nil⟩
  have CNSeen : C8.Met l.prog w K mg base 2 CN "seen" (spSeen l.prog w K CN CS) [] := ⟨_, _, _, [], RN.cl, ⟨aNSeen, iNSeen, kNSeen⟩, ok_seen FNSeen RN CSPart CSNamed CNNode, bNSeen, .nil⟩
  have CLRows := cal_mk FLRows (ok_lrows FLRows B (lmanys 12)) mLRows bLRows
  have CLNode := cal_mk (P := l.prog) (w := w) (K := K) (base := base) FLNode (ok_lnode FLNode B) mLNode bLNode
  have CLSeen := cal_mk (P := l.prog) (w := w) (K := K) (base := base) FLSeen (ok_lseen FLSeen CLNode) mLSeen bLSeen
  exact ok_law (by omega) (by omega) (by omega) (by omega) (by omega) FLaw B mbool CLPen CLDraw CLProgram CNodesMake CLRows CLGrounds CLSeen CNSeen CNMany CNTold
end Lz
open PySem PySem.W PyProof.Rows
set_option maxRecDepth 100000 in
set_option maxHeartbeats 0 in
theorem PySem.Challenge.cw_lazywebs_k16_nodes_seen_holds : PySem.Challenge.rw_lazywebs_k16_nodes_seen.Holds := by
  w_on; o_law; k_head; (case hw => w_witness2)
  k_fill
  refine L2.walk_of (l := PySem.Challenge.rw_lazywebs_k16_nodes_seen) (n := 63) (k := 32) (x := "_law_script") (CX := fun _ => L2.CX0) (sp := fun w => Lz.spLaw16 _) rfl (by decide) rfl ⟨rfl, by decide, by decide⟩ (fun w h Y => PySem.W.kIn_of Y) ?F (fun _ _ a ns hl _ hS => ⟨a, ns, rfl, hS, hl, fun _ => rfl⟩) (fun _ _ _ _ _ h => h)
  case F =>
    intro w mg fa h KX G hmg
    refine' Lz.all_mk KX G hmg ?aRowNames ?lRowNames ?cRowNames ?kRowNames ?aWithin ?lWithin ?cWithin ?kWithin ?aAllIn ?lAllIn ?cAllIn ?kAllIn ?aManyIn ?lManyIn ?cManyIn ?kManyIn ?aAllFunctions ?lAllFunctions ?cAllFunctions ?kAllFunctions ?aInnerPlaces ?lInnerPlaces ?cInnerPlaces ?kInnerPlaces ?aLPen ?lLPen ?cLPen ?kLPen ?aLDraw ?lLDraw ?cLDraw ?kLDraw ?aLNames ?lLNames ?cLNames ?kLNames ?aLNumber ?lLNumber ?cLNumber ?kLNumber ?aLLeaf ?lLLeaf ?cLLeaf ?kLLeaf ?aLFits ?lLFits ?cLFits ?kLFits ?aLCall ?lLCall ?cLCall ?kLCall ?aLLet ?lLLet ?cLLet ?kLLet ?aLPart ?lLPart ?cLPart ?kLPart ?aLLoop ?lLLoop ?cLLoop ?kLLoop ?aLBody ?lLBody ?cLBody ?kLBody ?aLProgram ?lLProgram ?cLProgram ?kLProgram ?aLGround ?lLGround ?cLGround ?kLGround ?aLInner ?lLInner ?cLInner ?kLInner ?aLMany ?lLMany ?cLMany ?kLMany ?aLGrounds ?lLGrounds ?cLGrounds ?kLGrounds ?aLNode ?lLNode ?cLNode ?kLNode ?aLSeen ?lLSeen ?cLSeen ?kLSeen ?aLRows ?lLRows ?cLRows ?kLRows ?aLaw ?lLaw ?cLaw ?kLaw ?zlen ?zmax ?zmin ?zabs ?zrange ?zint ?zlist ?ztuple ?zsum ?zisinstance ?zbool ?zenumerate ?zzip ?zdict ?aP ?lP ?tP ?wP ?h1 ?h2 ?h3 ?h4 ?h5 ?h6 ?h7 ?h8 ?h9 ?n1 ?n2 ?n3 ?aSInit ?iSInit ?lSInit ?cSInit ?kSInit ?aSAddBody ?iSAddBody ?lSAddBody ?cSAddBody ?kSAddBody ?aSPart ?iSPart ?lSPart ?cSPart ?kSPart ?aSNamed ?iSNamed ?lSNamed ?cSNamed ?kSNamed ?aCS ?pgS ?hdS ?poS ?saS ?mkS ?kcS ?aNInit ?iNInit ?lNInit ?cNInit ?kNInit ?aNNode ?iNNode ?lNNode ?cNNode ?kNNode ?aNSeen ?iNSeen ?lNSeen ?cNSeen ?kNSeen ?aNTold ?iNTold ?lNTold ?cNTold ?kNTold ?aNMany ?iNMany ?lNMany ?cNMany ?kNMany ?aCN ?pgN ?hdN ?poN ?saN ?mkN ?kcN ?nS0 ?nS1 ?nS2 ?nS3 ?nS4 ?nS5 ?nN0 ?nN1 ?nN2
    (case aRowNames => k_is); (case lRowNames => k_is); (case cRowNames => k_is); (case kRowNames => k_is)
    (case aWithin => k_is); (case lWithin => k_is); (case cWithin => k_is); (case kWithin => k_is)
    (case aAllIn => k_is); (case lAllIn => k_is); (case cAllIn => k_is); (case kAllIn => k_is)
    (case aManyIn => k_is); (case lManyIn => k_is); (case cManyIn => k_is); (case kManyIn => k_is)
    (case aAllFunctions => k_is); (case lAllFunctions => k_is); (case cAllFunctions => k_is); (case kAllFunctions => k_is)
    (case aInnerPlaces => k_is); (case lInnerPlaces => k_is); (case cInnerPlaces => k_is); (case kInnerPlaces => k_is)
    (case aLPen => k_is); (case lLPen => k_is); (case cLPen => k_is); (case kLPen => k_is)
    (case aLDraw => k_is); (case lLDraw => k_is); (case cLDraw => k_is); (case kLDraw => k_is)
    (case aLNames => k_is); (case lLNames => k_is); (case cLNames => k_is); (case kLNames => k_is)
    (case aLNumber => k_is); (case lLNumber => k_is); (case cLNumber => k_is); (case kLNumber => k_is)
    (case aLLeaf => k_is); (case lLLeaf => k_is); (case cLLeaf => k_is); (case kLLeaf => k_is)
    (case aLFits => k_is); (case lLFits => k_is); (case cLFits => k_is); (case kLFits => k_is)
    (case aLCall => k_is); (case lLCall => k_is); (case cLCall => k_is); (case kLCall => k_is)
    (case aLLet => k_is); (case lLLet => k_is); (case cLLet => k_is); (case kLLet => k_is)
    (case aLPart => k_is); (case lLPart => k_is); (case cLPart => k_is); (case kLPart => k_is)
    (case aLLoop => k_is); (case lLLoop => k_is); (case cLLoop => k_is); (case kLLoop => k_is)
    (case aLBody => k_is); (case lLBody => k_is); (case cLBody => k_is); (case kLBody => k_is)
    (case aLProgram => k_is); (case lLProgram => k_is); (case cLProgram => k_is); (case kLProgram => k_is)
    (case aLGround => k_is); (case lLGround => k_is); (case cLGround => k_is); (case kLGround => k_is)
    (case aLInner => k_is); (case lLInner => k_is); (case cLInner => k_is); (case kLInner => k_is)
    (case aLMany => k_is); (case lLMany => k_is); (case cLMany => k_is); (case kLMany => k_is)
    (case aLGrounds => k_is); (case lLGrounds => k_is); (case cLGrounds => k_is); (case kLGrounds => k_is)
    (case aLNode => k_is); (case lLNode => k_is); (case cLNode => k_is); (case kLNode => k_is)
    (case aLSeen => k_is); (case lLSeen => k_is); (case cLSeen => k_is); (case kLSeen => k_is)
    (case aLRows => k_is); (case lLRows => k_is); (case cLRows => k_is); (case kLRows => k_is)
    (case aLaw => k_is); (case lLaw => k_is); (case cLaw => k_is); (case kLaw => k_is)
    (case zlen => k_is)
    (case zmax => k_is)
    (case zmin => k_is)
    (case zabs => k_is)
    (case zrange => k_is)
    (case zint => k_is)
    (case zlist => k_is)
    (case ztuple => k_is)
    (case zsum => k_is)
    (case zisinstance => k_is)
    (case zbool => k_is)
    (case zenumerate => k_is)
    (case zzip => k_is)
    (case zdict => k_is)
    (case aP => k_is); (case lP => k_is)
    (case tP => exact ⟨⟨_, _, rfl, rfl⟩, ⟨_, _, rfl, rfl⟩, ⟨_, _, rfl, rfl⟩, ⟨_, _, rfl, rfl⟩, ⟨_, _, rfl, rfl⟩, ⟨_, _, rfl, rfl⟩, ⟨_, _, rfl, rfl⟩, ⟨_, _, rfl, rfl⟩, ⟨_, _, rfl, rfl⟩, True.intro⟩)
    (case wP => rfl)
    (case h1 => k_is); (case h2 => k_is); (case h3 => k_is); (case h4 => k_is); (case h5 => k_is); (case h6 => k_is); (case h7 => k_is); (case h8 => k_is); (case h9 => k_is)
    (case n1 => k_is); (case n2 => k_is); (case n3 => k_is)
    (case aCS => k_is)
    (case aCN => k_is)
    (case aSInit => k_is)
    (case iSInit => k_is)
    (case lSInit => k_is)
    (case cSInit => k_is)
    (case kSInit => k_is)
    (case aSAddBody => k_is)
    (case iSAddBody => k_is)
    (case lSAddBody => k_is)
    (case cSAddBody => k_is)
    (case kSAddBody => k_is)
    (case aSPart => k_is)
    (case iSPart => k_is)
    (case lSPart => k_is)
    (case cSPart => k_is)
    (case kSPart => k_is)
    (case aSNamed => k_is)
    (case iSNamed => k_is)
    (case lSNamed => k_is)
    (case cSNamed => k_is)
    (case kSNamed => k_is)
    (case pgS => k_is)
    (case hdS => k_is)
    (case poS => k_is)
    (case saS => k_is)
    (case mkS => k_is)
    (case kcS => k_is)
    (case aNInit => k_is)
    (case iNInit => k_is)
    (case lNInit => k_is)
    (case cNInit => k_is)
    (case kNInit => k_is)
    (case aNNode => k_is)
    (case iNNode => k_is)
    (case lNNode => k_is)
    (case cNNode => k_is)
    (case kNNode => k_is)
    (case aNSeen => k_is)
    (case iNSeen => k_is)
    (case lNSeen => k_is)
    (case cNSeen => k_is)
    (case kNSeen => k_is)
    (case aNTold => k_is)
    (case iNTold => k_is)
    (case lNTold => k_is)
    (case cNTold => k_is)
    (case kNTold => k_is)
    (case aNMany => k_is)
    (case iNMany => k_is)
    (case lNMany => k_is)
    (case cNMany => k_is)
    (case kNMany => k_is)
    (case pgN => k_is)
    (case hdN => k_is)
    (case poN => k_is)
    (case saN => k_is)
    (case mkN => k_is)
    (case kcN => k_is)
    (case nS0 => k_is)
    (case nS1 => k_is)
    (case nS2 => k_is)
    (case nS3 => k_is)
    (case nS4 => k_is)
    (case nS5 => k_is)
    (case nN0 => k_is)
    (case nN1 => k_is)
    (case nN2 => k_is)

