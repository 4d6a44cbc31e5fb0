"""Libraries: modules and their initializers."""

from cycleready.errors import InvalidLibrary, InvalidProgram, UnknownModule
from cycleready.programs import bare_program, check_steps
from cycleready.words import bare_word, is_name

MOST_MODULES = 40


def check_pair(key, value, names):
    """Raise InvalidLibrary if a key is not a name, or its value is not an initializer with only these modules."""
    if not is_name(key):
        raise InvalidLibrary(key, -1)
    try:
        check_steps(value, False, names)
    except InvalidProgram as error:
        raise InvalidLibrary(key, error.position) from None


def check_pairs(pairs):
    """Raise InvalidLibrary if the pairs of a key and a value are not those of a library."""
    if not 1 <= len(pairs) <= MOST_MODULES:
        raise InvalidLibrary(None, -1)
    names = [key for key, value in pairs if is_name(key)]
    for key, value in pairs:
        check_pair(key, value, names)


class Library:
    """One to forty modules with their initializers; it never changes."""

    def __init__(self, modules):
        if not isinstance(modules, dict):
            raise InvalidLibrary(None, -1)
        check_pairs(list(modules.items()))
        self.initializers = {bare_word(name): bare_program(modules[name]) for name in sorted(modules)}

    @classmethod
    def of(cls, *pairs):
        """Return a library of the modules and initializers in the pairs."""
        # Only strings are compared: other values are refused below, and may not be fit to be compared.
        modules = [module for module, program in pairs if isinstance(module, str)]
        for at, module in enumerate(modules):
            if module in modules[:at]:
                raise InvalidLibrary(module, -1)
        # Before this check it is not certain that the modules can be the keys of a dict.
        check_pairs(pairs)
        return cls({module: program for module, program in pairs})

    def __eq__(self, other):
        return isinstance(other, Library) and self.initializers == other.initializers

    def __len__(self):
        return len(self.initializers)

    def __repr__(self):
        return f"Library({self.initializers!r})"

    def modules(self):
        """Return the sorted list of the modules."""
        return list(self.initializers)

    def has_module(self, value):
        """Return whether a value is one of the modules."""
        return is_name(value) and value in self.initializers

    def initializer(self, module):
        """Return the list of the steps of a module's initializer."""
        if not self.has_module(module):
            raise UnknownModule(module)
        return list(self.initializers[module])
