"""Runs the tests folder by folder with unittest, says how many there were, and fails if one fails."""

import os
import re
import subprocess
import sys

ROOT = os.path.dirname(os.path.dirname(os.path.abspath(__file__)))
SHARED = os.path.join(os.path.dirname(ROOT), "shared", "tests")


def test_folders(top):
    """The folders below a top folder that hold tests, with the names of their test modules."""
    for folder, inner, files in sorted(os.walk(top)):
        modules = sorted(file[:-3] for file in files if re.fullmatch(r"test_\w+\.py", file))
        if modules:
            yield folder, modules


def run_folder(folder, modules):
    """The pair (how many tests ran, how many failed); a run that ends badly has at least one failure."""
    paths = [ROOT, folder, os.environ.get("PYTHONPATH", "")]
    more = {"PYTHONPATH": os.pathsep.join(path for path in paths if path)}
    done = subprocess.run([sys.executable, "-m", "unittest", *modules], cwd=folder, env={**os.environ, **more},
                          stdout=subprocess.PIPE, stderr=subprocess.STDOUT, text=True)
    print(f"== {folder}\n{done.stdout}", flush=True)
    counts = [int(count) for count in re.findall(r"^Ran (\d+) tests? in ", done.stdout, re.MULTILINE)]
    ran = counts[-1] if counts else 0
    failed = sum(int(count) for count in re.findall(r"(?:failures|errors)=(\d+)", done.stdout.rpartition("Ran ")[2]))
    return ran, failed if done.returncode == 0 or failed else 1


def main():
    ran = failed = 0
    for top in (os.path.join(ROOT, "tests"), SHARED):
        for folder, modules in test_folders(top):
            more, wrong = run_folder(folder, modules)
            ran += more
            failed += wrong
    print(f"{ran} tests ran")
    print(f"{max(ran - failed, 0)} passed, {failed} failed")
    return 1 if failed or ran == 0 else 0


if __name__ == "__main__":
    sys.exit(main())
