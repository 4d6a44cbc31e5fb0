"""Consoles: a world that is driven and asked by commands."""

from cycleready.certificates import waiting_path
from cycleready.errors import (
    CommandFailed,
    HasEnded,
    InvalidCommand,
    InvalidNumber,
    InvalidText,
    LoaderError,
    MustWait,
    NameTaken,
    NotWaiting,
    StillNeeded,
    TooMany,
    UnknownModule,
    UnknownThread,
    WrongState,
)
from cycleready.history_text import dump_history
from cycleready.programs import parse_step, step_text
from cycleready.words import VARIABLES, is_count, is_decimal
from cycleready.world import run

FIRST_LIMIT = 5000


def words_in(command):
    """Return the list of the words of a command."""
    if not isinstance(command, str) or "\n" in command:
        raise InvalidCommand("not a string of words")
    words = command.split(" ")
    if "" in words:
        raise InvalidCommand("not words that are separated by one space")
    return words


def count_in(word):
    """Return the count that a word stands for."""
    if word.startswith("-") or not is_decimal(word):
        raise InvalidCommand("not a count")
    return int(word)


def step_in(words):
    """Return the step with the text that consists of these words."""
    try:
        return parse_step(" ".join(words))
    except InvalidText:
        raise InvalidCommand("not the text of a step") from None


def steps_in(words):
    """Return the list of the steps in the words behind the name of a thread: before each step stands a word `;`."""
    marks = [at for at, word in enumerate(words) if word == ";"]
    if len(words) > 0 and words[0] != ";":
        raise InvalidCommand("no ; before a step")
    ends = marks[1:] + [len(words)]
    return [step_in(words[mark + 1:end]) for mark, end in zip(marks, ends)]


def event_words(event):
    """Return the list of the words that tell an event."""
    kind = event[0]
    if kind == "end":
        return [kind]
    words = [kind, "-" if event[2] is None else event[2]]
    if kind == "step":
        words.append(step_text(event[3]))
    elif kind == "request":
        words += [event[3], "started" if event[4] else "present"]
    elif kind == "continue":
        words += [event[3], event[4]]
    elif kind in ("finish", "fail"):
        words += list(event[3])
    return words


def unload_words(world):
    """Unload modules; return the words of the answer."""
    return ["ok"] + world.unload()


def needs_words(world):
    """Return the needs as words."""
    return [str(world.needs())]


def can_words(world):
    """Return the threads that can run."""
    return world.can_run()


def threads_words(world):
    """Return the threads."""
    return world.threads()


def history_words(world):
    """Return the text of the history as one word."""
    return [dump_history(world)]


def act_words(world, thread):
    """Perform the action of a thread; return the words of its event."""
    return event_words(world.act(thread))


def retry_words(world, module):
    """Retry a module; return the words of the answer."""
    world.retry(module)
    return ["ok"]


def state_words(world, module):
    """Return the state of a module."""
    return [world.state_of(module)]


def exports_words(world, module):
    """Return the exports of a module as words."""
    exports = world.exports(module)
    return [f"{name}={exports[name]}" for name in exports]


def stack_words(world, thread):
    """Return the modules on the stack of a thread."""
    return world.stack(thread)


def status_words(world, thread):
    """Return the status of a thread, and the module for which it waits, if any."""
    target = world.waits_for(thread)
    return [world.status(thread)] if target is None else [world.status(thread), target]


def variables_words(world, thread):
    """Return the values of the variables of a thread's main program."""
    variables = world.variables(thread)
    return [str(variables[variable]) for variable in VARIABLES]


def why_words(world, thread):
    """Return the certificate of a thread that waits."""
    return waiting_path(world, thread)


# The commands of one word, and those of a word and a name.
ALONE = {
    "unload": unload_words,
    "needs": needs_words,
    "can": can_words,
    "threads": threads_words,
    "history": history_words,
}
WITH_NAME = {
    "act": act_words,
    "retry": retry_words,
    "state": state_words,
    "exports": exports_words,
    "stack": stack_words,
    "status": status_words,
    "variables": variables_words,
    "why": why_words,
}


class Console:
    """A world, and the greatest number of actions of a command `run`."""

    def __init__(self, world):
        self.current = world.clone()
        self.most_actions = FIRST_LIMIT

    def world(self):
        """Return a copy of the world."""
        return self.current.clone()

    @property
    def limit(self):
        """The greatest number of actions of a command `run`."""
        return self.most_actions

    @limit.setter
    def limit(self, value):
        if not is_count(value):
            raise InvalidNumber("the limit is a count")
        self.most_actions = int(value)

    def answer(self, command):
        """Perform a command and return the answer."""
        first, *others = words_in(command)
        if first in ("thread", "run", "limit", "undo"):
            words = self.change(first, others)
        elif first in ALONE and len(others) == 0:
            action = ALONE[first]
            words = action(self.current)
        elif first in WITH_NAME and len(others) == 1:
            action = WITH_NAME[first]
            words = action(self.current, others[0])
        else:
            raise InvalidCommand("not a command")
        answer = " ".join(words)
        return answer if answer != "" else "-"

    def change(self, first, others):
        """Perform a command with counts or steps among its words; return the words of the answer."""
        if first == "run":
            choices = [count_in(word) for word in others]
            return [str(run(self.current, choices=choices, limit=self.most_actions))]
        if len(others) == 0 or (len(others) > 1 and first != "thread"):
            raise InvalidCommand("not the right number of words")
        if first == "undo":
            return [str(self.current.undo(count=count_in(others[0])))]
        if first == "limit":
            self.most_actions = count_in(others[0])
        else:
            self.current.add_thread(others[0], steps_in(others[1:]))
        return ["ok"]

    def answer_all(self, commands):
        """Answer a list of commands; if one raises an error, none of them has changed anything."""
        if not isinstance(commands, list):
            raise InvalidCommand("not a list of commands")
        world = self.current.clone()
        most_actions = self.most_actions
        answers = []
        for position, command in enumerate(commands):
            try:
                answers.append(self.answer(command))
            except (
                LoaderError,
                UnknownModule,
                UnknownThread,
                NameTaken,
                WrongState,
                MustWait,
                NotWaiting,
                HasEnded,
                StillNeeded,
                TooMany,
            ) as error:
                self.current = world
                self.most_actions = most_actions
                raise CommandFailed(position, answers) from error
        return answers
