"""The lines of logs."""

from toldstarts.house.machines import fold_names
from toldstarts.jobs.likes import fold_indices
from toldstarts.jobs.reader import write_job

NONE = "-"
INDENT = "  "


def setting_lines(setting):
    """The lines of a setting."""
    machines, tokens, doors, limits, weights, depth, fill, period, windows = setting
    lines = [machine_line(machine) for machine in machines] + [tokens_line(tokens)]
    lines.extend([door_line(row) for row in list(doors)])
    lines.extend([account_line(row) for row in list(limits.accounts)])
    lines.extend([limit_line(row) for row in limits.rows])
    lines.append(weights_line(weights))
    lines.extend([number_line("depth", depth), fill_line(fill), number_line("period", period)])
    return lines + [window_line(row) for row in windows]


def deed_lines(deed):
    """The lines of a deed."""
    word = deed[0]
    if word == "come":
        return [word] + job_lines(deed[1])
    if word == "row":
        _, job, indices, once = deed
        return [f"row {fold_indices(indices)} {_or_none(once)}"] + job_lines(job)
    if word in ("shut", "open"):
        _, names, begin, end = deed
        return [f"{word} {fold_names(names)} {begin} {_or_none(end)}"]
    return [" ".join([str(part) for part in deed])]


def job_lines(job):
    """The lines of a job behind its deed."""
    return [INDENT + line for line in write_job(job).split("\n")]


def machine_line(machine):
    """The line of a machine."""
    marks = ",".join(machine.marks)
    return f"machine {machine.name} {machine.rack} {marks or NONE} {str(machine.amounts)}"


def tokens_line(tokens):
    """The line of the tokens."""
    return f"tokens {str(tokens)}"


def door_line(row):
    """The line of a door."""
    name, longest = row
    return f"door {name} {longest}"


def account_line(row):
    """The line of an account."""
    name, parent, share = row
    return f"account {name} {parent or NONE} {share}"


def limit_line(row):
    """The line of a limit."""
    (where, name), what, most = row
    return f"limit {where} {name} {what} {most}"


def weights_line(weights):
    """The line of the weights."""
    return f"weights {weights.age} {weights.cap} {weights.size} {weights.grade} {weights.place}"


def number_line(word, number):
    """The line of a depth, or of a period."""
    return f"{word} {number}"


def fill_line(fill):
    """The line that tells whether the board fills."""
    return "fill yes" if fill else "fill no"


def window_line(row):
    """The line of a window."""
    name, begin, length = row
    return f"window {name} {begin} {length}"


def _or_none(number):
    """The text of a number, or of None."""
    return NONE if number is None else str(number)
