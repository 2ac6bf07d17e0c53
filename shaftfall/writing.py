"""Writing: shafts and plans as texts, and texts read back."""

from shaftfall.errors import NoText
from shaftfall.shafts import is_shaft

TIMES = "0123"
FIGURES = "0123456789"


def shaft_text(shaft):
    """The rows of the shaft from the highest down."""
    return "/".join(shaft[::-1])


def read_shaft(text):
    """The shaft of which the text is the writing."""
    shaft = tuple(text.split("/")[::-1])
    if not is_shaft(shaft):
        raise NoText("the text is not the writing of a shaft")
    return shaft


def plan_text(plan):
    """The drops of the plan, each as its times and its x."""
    return " ".join([f"{times}@{x}" for times, x in plan])


def read_plan(text):
    """The plan of which the text is the writing."""
    # To split the empty text would bring one empty word, but it is the writing of no drops.
    if text == "":
        return ()
    return tuple([read_drop(word) for word in text.split(" ")])


def read_drop(word):
    """The drop of which the word is the writing."""
    if len(word) != 3 or word[0] not in TIMES or word[1] != "@" or word[2] not in FIGURES:
        raise NoText("the text is not the writing of a plan")
    return int(word[0]), int(word[2])
