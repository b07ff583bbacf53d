"""Where a file has ranges, zips, views and their like elsewhere than where they are walked on the spot."""

import ast

VIEWS = ("items", "keys", "values")
WALKED = (
    "range", "zip", "enumerate", "reversed", "map", "product", "combinations", "permutations", "chain", "accumulate",
    "pairwise", "islice", "zip_longest",
)
# Those that walk their first argument, and those that do so where no other one
# stands beside it.
WALKERS = ("list", "tuple", "dict", "sorted", "sum", "any", "all", "enumerate", "zip", "bytes")
LONE_WALKERS = ("min", "max")


def called(node):
    """The bare name that is called, or None."""
    return node.func.id if isinstance(node, ast.Call) and isinstance(node.func, ast.Name) else None


def method_called(node):
    """The name of the method that is called, or None."""
    return node.func.attr if isinstance(node, ast.Call) and isinstance(node.func, ast.Attribute) else None


def is_view(node):
    return method_called(node) in VIEWS


def is_walked(node):
    """Whether it is one of those that are walked on the spot, and not kept."""
    # The language lets a plain variable keep some of these; the package keeps
    # none, so one that is kept first and handed to extend then is found too.
    return (called(node) in WALKED or method_called(node) == "from_iterable" or is_view(node)
            or isinstance(node, ast.GeneratorExp))


def is_sized(node):
    """Whether it may be measured, and asked what is in it, as it stands."""
    return called(node) == "range" or is_view(node)


def is_join(node):
    """Whether it is the join of a text that is written out."""
    return method_called(node) == "join" and isinstance(node.func.value, ast.Constant)


def walks(above, node):
    """Whether the call above walks the node on the spot."""
    if above.args[:1] != [node]:
        return False
    if called(above) in LONE_WALKERS:
        return len(above.args) == 1 and all(keyword.arg == "default" for keyword in above.keywords)
    if called(above) == "len":
        return is_sized(node)
    if called(above) == "reversed":
        return called(node) == "range"
    return called(above) in WALKERS or is_join(above)


def stands_well(above, node):
    """Whether the node, straight within the one above, is walked on the spot."""
    if isinstance(above, (ast.For, ast.comprehension)):
        return above.iter is node
    if isinstance(above, ast.Call):
        return walks(above, node)
    if isinstance(above, ast.Compare):
        return above.comparators == [node] and isinstance(above.ops[0], (ast.In, ast.NotIn)) and is_sized(node)
    return False


def kept_rows(tree):
    """The rows of the file in which one is not walked on the spot, from the first one on."""
    return sorted(node.lineno for above in ast.walk(tree) for node in ast.iter_child_nodes(above)
                  if is_walked(node) and not stands_well(above, node))
