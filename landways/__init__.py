"""landways: rights of way over land that goes from hand to hand."""
