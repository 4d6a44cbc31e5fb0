"""Libraries and main programs that are drawn at random."""

NAMES = ["p", "q", "r", "s", "t"]


def drawn_step(draw, modules, steps_after, is_main):
    """A step with these modules; needs and tries come often."""
    kinds = ["need"] * 5 + ["try"] * 4 + ["read"] * 3 + ["set", "set", "add", "skip"] + ["fail"] * (draw.random() < 0.6)
    kind = draw.choice(kinds if is_main else kinds + ["export"] * 3)
    module, x, y = draw.choice(modules), draw.choice("abcd"), draw.choice("abcd")
    if kind == "skip" and steps_after == 0:
        kind = "set"
    return {
        "need": ("need", module),
        "try": ("try", module, x),
        "read": ("read", x, module, draw.choice("xy")),
        "set": ("set", x, draw.randrange(-2, 9)),
        "add": ("add", x, y),
        "skip": ("skip", x, draw.randint(1, max(1, steps_after))),
        "fail": ("fail",),
        "export": ("export", draw.choice("xy"), x),
    }[kind]


def drawn_program(draw, modules, most, is_main=False):
    length = draw.randint(0, most)
    return [drawn_step(draw, modules, length - at - 1, is_main) for at in range(length)]


def drawn_library(draw, count, most, is_acyclic=False):
    """A dict of modules and initializers; in an acyclic one each module needs only later ones."""
    names = NAMES[:count]
    programs = {}
    for at, name in enumerate(names):
        modules = names[at + 1:] if is_acyclic else names
        program = drawn_program(draw, modules or names, most)
        if is_acyclic and not modules:
            program = [step for step in program if step[0] not in ("need", "try", "skip")]
        programs[name] = program
    return programs
